/- Walk of OctetOwn. -/
import Derived.Test.YtlgondcdfoghpaaOctW7
namespace Go.Proofs.Ytlgondcdfoghpaa.Walk
open Go.RowKit Go.Proofs.Ytlgondcdfoghpaa.Plain Go.Proofs.Ytlgondcdfoghpaa.Sees Go.Proofs.Ytlgondcdfoghpaa.Oct
set_option linter.unusedVariables false

/-- Of a copy's bytes (block g) those from X on are as they were, of its rows (block hv) those from i on; below w4's end nothing has turned. -/
structure Inv (w4 wr : World) (hv g : Nat) (cv0 cg0 : Array Value) (i X : Nat) : Prop where
  low : Below w4.heap.size w4 wr
  rows : ∃ cv, wr.heap[hv]? = some (.cells cv 26 (0, 0)) ∧ cv.size = cv0.size ∧ ∀ j, i ≤ j → cv[j]? = cv0[j]?
  bytes : ∃ cg, wr.heap[g]? = some (.cells cg 5 (0, 0)) ∧ cg.size = cg0.size ∧ ∀ x, X ≤ x → cg[x]? = cg0[x]?

section
variable {w4 wr w' : World} {hv g i X : Nat} {cv0 cg0 : Array Value}
theorem Inv.drewN (h : Inv w4 wr hv g cv0 cg0 i X) (n : Nat) : Inv w4 (wr.drewN n) hv g cv0 cg0 i X :=
  ⟨h.low.trans ⟨rfl, rfl, rfl, Nat.le_refl _, fun _ _ => rfl⟩, h.rows, h.bytes⟩
theorem Inv.mono (h : Inv w4 wr hv g cv0 cg0 i X) {Y : Nat} (hY : X ≤ Y) : Inv w4 wr hv g cv0 cg0 i Y := by
  obtain ⟨cg, h1, h2, h3⟩ := h.bytes
  exact ⟨h.low, h.rows, cg, h1, h2, fun x hx => h3 x (by omega)⟩
theorem Inv.lt (h : Inv w4 wr hv g cv0 cg0 i X) : hv < wr.heap.size ∧ g < wr.heap.size := by
  obtain ⟨cv, h1, _⟩ := h.rows
  obtain ⟨cg, h2, _⟩ := h.bytes
  exact ⟨(Array.getElem?_eq_some_iff.1 h1).1, (Array.getElem?_eq_some_iff.1 h2).1⟩
theorem Inv.grown (h : Inv w4 wr hv g cv0 cg0 i X) (hg : wr.grownBy w' none) : Inv w4 w' hv g cv0 cg0 i X := by
  obtain ⟨cv, h1, h2⟩ := h.rows
  obtain ⟨cg, h3, h4⟩ := h.bytes
  have hlt := h.lt
  exact ⟨h.low.grown hg h.low.size (fun k hk => by cases hk), ⟨cv, by rw [hg.block hv hlt.1 (by simp)]; exact h1, h2⟩, ⟨cg, by rw [hg.block g hlt.2 (by simp)]; exact h3, h4⟩⟩
theorem Inv.row (h : Inv w4 wr hv g cv0 cg0 i X) {j : Nat} {v : Value} (hj : i ≤ j) (hc : cv0[j]? = some v) : wr.cell? ⟨hv, j, none⟩ = some v ∧ wr.frozen? ⟨hv, j, none⟩ = false := by
  obtain ⟨cv, h1, _, h3⟩ := h.rows
  exact ⟨by rw [cell_of_row wr hv j cv _ (0, 0) h1, h3 j hj, hc], by simp [World.frozen?, h1]⟩
theorem Inv.byte (h : Inv w4 wr hv g cv0 cg0 i X) {x : Nat} {v : Value} (hx : X ≤ x) (hc : cg0[x]? = some v) : wr.cell? ⟨g, x, none⟩ = some v ∧ wr.frozen? ⟨g, x, none⟩ = false := by
  obtain ⟨cg, h1, _, h3⟩ := h.bytes
  exact ⟨by rw [cell_of_row wr g x cg _ (0, 0) h1, h3 x hx, hc], by simp [World.frozen?, h1]⟩
theorem Inv.setByte (h : Inv w4 wr hv g cv0 cg0 i X) (hne : g ≠ hv) (hg : w4.heap.size ≤ g) (u : Value) : Inv w4 (wr.setCell ⟨g, X, none⟩ u) hv g cv0 cg0 i (X + 1) := by
  obtain ⟨cv, h1, h2⟩ := h.rows
  obtain ⟨cg, h3, h4, h5⟩ := h.bytes
  refine ⟨h.low.setCell hg u, ⟨cv, by rw [Below.heap_setCell _ _ _ _ (Ne.symm hne)]; exact h1, h2⟩, ⟨cg.setIfInBounds X u, by simp [World.setCell, Array.getElem?_modify, h3], by simpa using h4, fun x hx => ?_⟩⟩
  rw [Array.getElem?_setIfInBounds_ne (by omega)]
  exact h5 x (by omega)
theorem Inv.setRow (h : Inv w4 wr hv g cv0 cg0 i X) (hne : g ≠ hv) (hg : w4.heap.size ≤ hv) (u : Value) : Inv w4 (wr.setCell ⟨hv, i, none⟩ u) hv g cv0 cg0 (i + 1) X := by
  obtain ⟨cv, h1, h2, h2'⟩ := h.rows
  obtain ⟨cg, h3, h4⟩ := h.bytes
  refine ⟨h.low.setCell hg u, ⟨cv.setIfInBounds i u, by simp [World.setCell, Array.getElem?_modify, h1], by simpa using h2, fun j hj => ?_⟩, ⟨cg, by rw [Below.heap_setCell _ _ _ _ hne]; exact h3, h4⟩⟩
  rw [Array.getElem?_setIfInBounds_ne (by omega)]
  exact h2' j (by omega)
/-- the cells of a row that lies whole in the copy, whatever they hold -/
theorem Inv.cells (h : Inv w4 wr hv g cv0 cg0 i X) (a L : Nat) (hL : a + L ≤ cg0.size) : ∃ olds : List Value, olds.length = L ∧ ∀ j u, olds[j]? = some u → wr.cell? ⟨g, a + j, none⟩ = some u := by
  obtain ⟨cg, h3, h4, _⟩ := h.bytes
  refine ⟨(cg.toList.drop a).take L, by simp; omega, fun j u hu => ?_⟩
  rw [cell_of_row wr g (a + j) cg _ (0, 0) h3]
  rw [List.getElem?_take] at hu
  split at hu
  · rw [List.getElem?_drop] at hu
    simpa using hu
  · cases hu
end

/-- What Part leaves of whole rows: rows of the call's own, in a copy of the call's own. -/
def PartOwn (w : World) (n m : Nat) (zs : List (List Int)) (e : Ending) (w' : World) : Prop :=
  ∃ (A : Option Addr) (c : Nat) (rs : List RowV), rs.map RowV.bs = zs ∧ rs.length = n ∧ e = .returned (.tuple #[.slice A n c, .int .i64 0]) ∧ Below w.heap.size w w' ∧
    (n = 0 ∨ ∃ (hv g : Nat) (cv0 cg0 : Array Value), A = some ⟨hv, 0, none⟩ ∧ w.heap.size ≤ hv ∧ w.heap.size ≤ g ∧ g ≠ hv ∧ Inv w w' hv g cv0 cg0 0 0 ∧ (∀ (j : Nat) (r : RowV), rs[j]? = some r → cv0[j]? = some r.val) ∧
      m ≤ cg0.size ∧ laid g 0 rs m ∧ (∀ x, x < m → ∃ b : Int, 0 ≤ b ∧ b ≤ 255 ∧ cg0[x]? = some (.int .u8 b)) ∧
      ∀ r ∈ rs, ∀ o : Nat, r.A = some ⟨g, o, none⟩ → ∀ (j : Nat) (u : Value), (nums .u8 r.bs)[j]? = some u → cg0[o + j]? = some u)

theorem laid_le (g : Nat) : ∀ (rs : List RowV) (a b : Nat), laid g a rs b → a ≤ b := by
  intro rs a b h
  have := laid_len g rs a b h
  omega

theorem Part_own (m c n : Nat) (a : Option Addr) (bs : List Int) (zs : List (List Int)) (w : World) (hlen : bs.length = m) (hm : m ≤ 100000000) (hsee : Sees w w.heap.size a (nums .u8 bs)) (hb : ∀ b ∈ bs, 0 ≤ b ∧ b ≤ 255) (hp : parts bs = some zs) (hn : zs.length = n) :
    Calls Try.prog 18 #[.slice a m c] w (PartOwn w n m zs) := by
  refine (Part_any m c a bs w hlen hm hsee hb).mono fun e w' h => ?_
  rcases h with ⟨h, _⟩ | ⟨v, rs, g, A, C, B, h, he, hbel, hB, ho, hok, hlaid, hcopy, hA, hAB⟩
  · rw [hp] at h; cases h
  · rw [hp] at h
    injection h with h
    have hl : rs.length = n := by rw [← hn, h]; simp
    rw [hlen] at hlaid hcopy hAB
    rcases ho.2 with ⟨hv, h0⟩ | ⟨hv, cap, cur, hve, hBv, hcur, hcap, _, hcs, htake⟩
    · subst hv
      obtain rfl : n = 0 := by omega
      exact ⟨none, 0, rs, h.symm, hl, by rw [he], hbel, .inl rfl⟩
    · by_cases hn0 : n = 0
      · subst hve
        exact ⟨_, cap, rs, h.symm, hl, by rw [he, hl], hbel, .inl hn0⟩
      · have hm2 : 2 ≤ m := by
          have := laid_len g rs 0 m hlaid
          omega
        have hne : bs ≠ [] := fun hh => by subst hh; simp at hlen; omega
        have hA' := hA.resolve_left hne
        subst hA'
        rcases hcopy.2 with ⟨hq, _⟩ | ⟨g', capg, cg, hq, hgb, hcg, hgn, _, hgs, hgt⟩
        · cases hq
        · injection hq with hq
          injection hq with hq
          injection hq with hq
          subst hq
          have hgB : g < B := hAB g rfl
          subst hve
          refine ⟨_, cap, rs, h.symm, hl, by rw [he, hl], hbel, .inr ⟨hv, g, cur, cg, rfl, by omega, hgb, by omega, ⟨hbel, ⟨cur, hcur, rfl, fun _ _ => rfl⟩, ⟨cg, hcg, rfl, fun _ _ => rfl⟩⟩, fun j r hr => ?_, by omega, hlaid, fun x hx => ?_, fun r hr o hro j u hu => ?_⟩⟩
          · have h1 : (rs.map RowV.val)[j]? = some r.val := by simp [hr]
            rw [← htake, List.getElem?_take] at h1
            split at h1
            · simpa using h1
            · cases h1
          · have h1 : (nums .u8 bs)[x]? = some (.int .u8 (bs[x]?.getD 0)) := nums_at .u8 bs x (by omega)
            have hbx := hb _ (get_mem bs x (by omega) 0)
            rw [← hgt, List.getElem?_take] at h1
            split at h1
            · exact ⟨_, hbx.1, hbx.2, by simpa using h1⟩
            · cases h1
          · have hs := (hok r hr).see
            rcases hs with hs | ⟨b, o', ha, _, hc⟩
            · rw [hs] at hu; simp at hu
            · rw [hro] at ha
              injection ha with ha
              injection ha with h1 h2
              subst h1; subst h2
              have := hc j u hu
              rwa [cell_of_row w' g (o + j) cg _ (0, 0) hcg] at this

set_option maxRecDepth 100000 in
set_option maxHeartbeats 6400000 in
theorem octetOwn_walk (w : World) (a0 : Option Addr) (len0 cap0 : Nat) (z0 : List RowV)
    (hl0 : z0.length = len0) (hc0 : len0 ≤ cap0) (hx0 : cap0 ≤ maxLen) (hs0 : Sees w w.heap.size a0 (z0.map RowV.val)) (hw0 : ∀ r ∈ z0, r.Ok w w.heap.size) (hr0 : ∀ r ∈ z0, r.bs.length ≤ reachBytes) :
    Calls Try.prog 7 #[.slice a0 len0 cap0] w fun e w' => e = .returned (.bool true) ∧ Below w.heap.size w w' := by
  unfold maxLen at hx0
  simp only [reachBytes] at hr0
  obtain ⟨i0, hi, hz0, hz1, hz2⟩ := info_parts info_u8
  have HL0 := Lib.hid hl0
  have HW0 := Lib.hid hw0
  have HR0 := Lib.hid hr0
  clear hl0 hw0 hr0
  by_cases hbig : 20 < len0
  · go_enter Try.func7, Try.ntmps7
    go_wp2_with (go_at_call 12; refine (awake_any _).mono ?_; rintro e w1 ⟨rfl, hd1⟩)
    go_ret
    exact ⟨rfl, hd1⟩
  · have h20 : len0 ≤ 20 := by omega
    clear hbig
    go_enter Try.func7, Try.ntmps7
    go_wp2_with (go_at_call 12; refine (awake_any _).mono ?_; rintro e w1 ⟨rfl, hd1⟩)
    go_loop [4] (fun i => ∃ k : Nat, k ≤ len0 ∧ i = .int .i64 k ∧ ∀ r ∈ z0.take k, r.bs.length ≤ 600) (fun i => len0 - (intOf i).toNat)
    case atStart => exact ⟨0, Nat.zero_le _, rfl, fun x hx => by simp at hx⟩
    case round =>
      obtain ⟨k, hk, rfl, h600⟩ := hrel
      have H6 := Lib.hid h600
      clear h600
      by_cases hlt : k < len0
      · have hk' : k < z0.length := by rw [HL0.out]; exact hlt
        have hel : (z0.map RowV.val)[k]? = some (z0[k].val) := by simp [hk']
        obtain ⟨b, o, rfl, hbB, hc⟩ := hs0.at_ hel
        have hc' := (bcell hd1 b (o + k) hbB).trans hc
        have hrk := HR0.out z0[k] (List.getElem_mem hk')
        have hmem : z0.take (k + 1) = z0.take k ++ [z0[k]] := List.take_succ_eq_append_getElem hk'
        generalize z0[k] = r at *
        obtain ⟨A, C, bs⟩ := r
        simp only [RowV.val] at hc' hrk
        have HM := Lib.hid hmem
        clear hmem hc hel
        generalize hL : bs.length = L at *
        have HLL := Lib.hid hL
        clear hL
        by_cases h6 : (600 : Int) < (L : Int)
        · go_wp2
          go_ret
          exact ⟨rfl, hd1⟩
        · go_wp2
          go_round
          case rel =>
            refine ⟨k + 1, by omega, by go_num, ?_⟩
            rw [HM.out]
            intro r hr
            rcases List.mem_append.1 hr with h | h
            · exact H6.out r h
            · rw [List.mem_singleton] at h
              subst h
              show bs.length ≤ 600
              rw [HLL.out]; omega
          case measure => simp [intOf]; omega
      · obtain rfl : len0 = k := by omega
        have ht2 : z0.take len0 = z0 := List.take_of_length_le (by rw [HL0.out]; exact Nat.le_refl _)
        rw [ht2] at H6
        clear ht2
        have hrow2 : ∀ r ∈ z0, r.bs.length ≤ 60000 := fun r hr => Nat.le_trans (H6.out r hr) (by omega)
        have hps := parts_joinB (z0.map RowV.bs) (fun r hr => by
          obtain ⟨q, hq, rfl⟩ := List.mem_map.1 hr
          have := hrow2 q hq; omega)
        have hSb := joinB_mem (z0.map RowV.bs) (fun r hr => by
          obtain ⟨q, hq, rfl⟩ := List.mem_map.1 hr
          exact (HW0.out q hq).byte)
        have hSl := joinB_le z0 600 H6.out
        have hj := fun W hb => Join_strc len0 cap0 _ a0 z0 _ w W HL0.out (by omega) hrow2 hs0 HW0.out hb rfl rfl
        rw [HL0.out] at hSl
        have hSl2 : (joinB (z0.map RowV.bs)).length ≤ 20 * 602 := Nat.le_trans hSl (Nat.mul_le_mul_right _ h20)
        have hpl : (z0.map RowV.bs).length = len0 := by rw [List.length_map, HL0.out]
        generalize joinB (z0.map RowV.bs) = S at *
        generalize hBL : S.length = BL at *
        have HJ := Lib.hid hj
        have HPS := Lib.hid hps
        have HSB := Lib.hid hSb
        have HBL := Lib.hid hBL
        have HPL := Lib.hid hpl
        clear hj hps hSb hBL hpl hSl hrow2
        go_wp2_with (first
          | (go_at_call 20
             go_loud (refine (HJ.out _ hd1).mono ?_)
             rintro e w4 ⟨A4, C4, rfl, hC4, hs4, hd4⟩
             have g4 : Below w.heap.size w w4 := hd1.trans (hd4.mono hd1.size)
             have kc := conv_sees (c := C4) hs4 HBL.out)
          | (go_at_call 18
             go_loud (refine (Part_own BL C4 len0 A4 S _ _ HBL.out (by omega) hs4 HSB.out HPS.out HPL.out).mono ?_)
             rintro e w5 ⟨A5, C5, rs, hrs, hrl, rfl, hd5, hinv⟩
             have HRS := Lib.hid hrs
             have HRL := Lib.hid hrl
             have HINV := Lib.hid hinv
             clear hrs hrl hinv))
        clear kc
        rcases HINV.out with hn0 | ⟨hv, g, cv0, cg0, rfl, hhv, hhg, hne, hinv, hcv, hcg, hlaid, hby, hrow⟩
        · subst hn0
          refine wp_loop_rounds 1 ?_
          have kf := conv_sees (c := C4) (hs4.below hd5 (Nat.le_refl _)) HBL.out
          repeat any_goals (rw [rounds_succ]; go_wp2)
          go_ret
          exact ⟨rfl, g4.trans (hd5.mono g4.size)⟩
        · have HCV := Lib.hid hcv
          have HBY := Lib.hid hby
          have HROW := Lib.hid hrow
          clear hcv hby hrow HINV
          go_loopw [9] (fun i wr => ∃ k X : Nat, k ≤ len0 ∧ i = .int .i64 k ∧ Inv w4 wr hv g cv0 cg0 k X ∧ laid g X (rs.drop k) BL) (fun i _ => len0 - (intOf i).toNat)
          case atStart => exact ⟨0, 0, Nat.zero_le _, rfl, hinv, hlaid⟩
          case round =>
            obtain ⟨k, X, hk, rfl, hI, hlk⟩ := hrel
            by_cases hlt : k < len0
            · have hk5 : k < rs.length := by rw [HRL.out]; exact hlt
              have hk' : k < z0.length := by rw [HL0.out]; exact hlt
              have hdr : rs.drop k = rs[k] :: rs.drop (k + 1) := List.drop_eq_getElem_cons hk5
              rw [hdr] at hlk
              have hbs : rs[k].bs = z0[k].bs := by
                have h1 : (rs.map RowV.bs)[k]? = (z0.map RowV.bs)[k]? := by rw [HRS.out]
                simpa [hk5, hk'] using h1
              have hel2 : (z0.map RowV.val)[k]? = some (z0[k].val) := by simp [hk']
              obtain ⟨b2, o2, rfl, hb2, hc2'⟩ := hs0.at_ hel2
              have hcvk := HCV.out k rs[k] (by simp [hk5])
              have hrowk := HROW.out rs[k] (List.getElem_mem _)
              have ho2 := HW0.out z0[k] (List.getElem_mem _)
              have h600k := H6.out z0[k] (List.getElem_mem _)
              generalize rs[k] = r5 at *
              generalize z0[k] = r2 at *
              obtain ⟨A, C, bs⟩ := r5
              obtain ⟨A', C', bs'⟩ := r2
              have hbs : bs = bs' := hbs
              subst hbs
              obtain ⟨hCL, hAX, hln⟩ := hlk
              have hCL : C = bs.length := hCL
              subst hCL
              have hAX : bs = [] ∨ A = some ⟨g, X + 2, none⟩ := hAX
              have hln : laid g (X + 2 + bs.length) (rs.drop (k + 1)) BL := hln
              have hXL := laid_le _ _ _ _ hln
              have h600k : bs.length ≤ 600 := h600k
              have hlow : Below w.heap.size w wr := g4.trans (hI.low.mono g4.size)
              have hc2'' := (bcell hlow b2 (o2 + k) hb2).trans hc2'
              have hp1 := (hI.row (Nat.le_refl _) hcvk).1
              have hsr : Sees wr wr.heap.size A (nums .u8 bs) := by
                rcases hAX with h | h
                · exact .inl (by rw [h]; rfl)
                · exact .inr ⟨g, X + 2, h, hI.lt.2, fun j u hu => (hI.byte (x := X + 2 + j) (by omega) (hrowk (X + 2) h j u hu)).1⟩
              have k5 := conv_drew (c := bs.length) hsr rfl
              have k2 := conv_drew (c := C') (ho2.see.below hlow (Nat.le_refl _)) rfl
              simp only [RowV.val] at hp1 hc2'' hcvk
              have hAX' : bs.length = 0 ∨ A = some ⟨g, X + 2, none⟩ := hAX.elim (fun h => .inl (by rw [h]; rfl)) .inr
              have HROWK := Lib.hid hrowk
              clear hel2 hc2' ho2 hrowk hdr hAX hsr
              generalize bs.length = L at *
              generalize strOfNums bs = st at *
              have HCVK := Lib.hid hcvk
              have HAX := Lib.hid hAX'
              clear hcvk hAX'
              go_wp2
              go_quiet (fail)
              go_wp2_with fail
              clear k5 k2 hp1 hc2''
              have hI2 := (hI.drewN nq).mono (show X ≤ X + 2 + 0 by omega)
              go_loopw [10] (fun t wr => ∃ q : Nat, q ≤ L ∧ t = .int .i64 q ∧ Inv w4 wr hv g cv0 cg0 k (X + 2 + q)) (fun t _ => L - (intOf t).toNat)
              case atStart => exact ⟨0, Nat.zero_le _, rfl, hI2⟩
              case round =>
                obtain ⟨q, hq, rfl, hJ⟩ := hrel
                have hrc := hJ.row (Nat.le_refl _) HCVK.out
                obtain ⟨hr1, hr2⟩ := hrc
                by_cases hql : q < L
                · obtain rfl : A = some ⟨g, X + 2, none⟩ := by
                    rcases HAX.out with h | h
                    · omega
                    · exact h
                  obtain ⟨v, hv0, hv1, hvc⟩ := HBY.out (X + 2 + q) (by omega)
                  obtain ⟨hb1, hb2'⟩ := hJ.byte (Nat.le_refl _) hvc
                  go_wp2
                  go_roundw
                  case rel => exact ⟨q + 1, by omega, by go_num, hJ.setByte hne hhg _⟩
                  case measure => simp [intOf]; omega
                · obtain rfl : L = q := by omega
                  obtain ⟨olds, hol, holds⟩ : ∃ olds : List Value, olds.length = L * 1 ∧ ∀ o : Obj, ∀ b, A = some b → ∀ j u, olds[j]? = some u → (wr.alloc o).cell? (b.add j) = some u := by
                    by_cases hL0 : L = 0
                    · exact ⟨[], by rw [hL0]; rfl, fun o b _ j u hu => by simp at hu⟩
                    · obtain ⟨olds, h1, h2⟩ := hJ.cells (X + 2) L (by omega)
                      refine ⟨olds, by rw [h1, Nat.mul_one], fun o b hb j u hu => ?_⟩
                      have hA := HAX.out.resolve_left hL0
                      rw [hb] at hA
                      injection hA with hA
                      subst hA
                      rw [Addr.add_lit, World.cell?_alloc_lt wr o _ (by exact hJ.lt.2)]
                      exact h2 j u hu
                  have hnone : A = none → L = 0 ∧ L = 0 := fun h => by
                    rcases HAX.out with h0 | h0
                    · exact ⟨h0, h0⟩
                    · rw [h] at h0; cases h0
                  have HOLDS := Lib.hid holds
                  have HNONE := Lib.hid hnone
                  have HOL := Lib.hid hol
                  clear holds hnone hol
                  go_wp2_with (at_builtin
                               go_loud (refine wpList_append_grows _ rfl (.tmp 87) (.tmp 88) 26 rfl 5 i0 (.int .u8 0) 1 1 Try.underlying26 hi hz0 hz1 hz2 rfl (by omega) A L L olds rfl HNONE.out HOL.out (HOLDS.out _) ⟨wr.heap.size, 0, none⟩ 1 1 [.int .u8 7] rfl rfl (new_cell _ _ _) (one_cell _ _) (by omega) (by unfold maxLen; omega) (by omega) ?_)
                               intro v1 w1 hown1 hg1
                               obtain ⟨A1, C1, rfl, _, _, _⟩ := own_form hown1
                               have hK := (hJ.grown (World.grownBy_alloc wr _ none)).grown hg1
                               obtain ⟨hk1, hk2⟩ := hK.row (Nat.le_refl _) HCVK.out)
                  go_roundw
                  case rel => exact ⟨k + 1, X + 2 + L, by omega, by go_num, hK.setRow hne hhv _, hln⟩
                  case measure => simp [intOf]; omega
            · have kf := conv_sees (c := C4) (hs4.below hI.low (Nat.le_refl _)) HBL.out
              go_wp2
              go_ret
              exact ⟨rfl, g4.trans (hI.low.mono g4.size)⟩

end Go.Proofs.Ytlgondcdfoghpaa.Walk
