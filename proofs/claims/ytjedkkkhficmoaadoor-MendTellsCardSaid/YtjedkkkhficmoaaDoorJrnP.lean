/- Plain: a ledger as it is kept. -/
import Derived.Test.YtjedkkkhficmoaaDoorCrcP
import Derived.Test.YtjedkkkhficmoaaDoorLgrP
namespace Go.Proofs.YtjedkkkhficmoaaDoor.JrnP
open Go.RowKit Go.Proofs.YtjedkkkhficmoaaDoor.Plain Go.Proofs.YtjedkkkhficmoaaDoor.Crc Go.Proofs.YtjedkkkhficmoaaDoor.Open Go.Proofs.YtjedkkkhficmoaaDoor.LgrP
set_option linter.unusedVariables false

/-- a number as eight bytes hold it -/
def u (x : Int) : Int := x % 18446744073709551616
theorem u_in (x : Int) : 0 ≤ u x ∧ u x ≤ 18446744073709551615 := by unfold u; omega
theorem lowB_u (n : Nat) (hn : n ≤ 8) (x : Int) : lowB n (u x) = lowB n x := by
  have key : ∀ (k m : Nat) (x y : Int), k ≤ m → x % 256 ^ m = y % 256 ^ m → lowB k x = lowB k y := by
    intro k
    induction k with
    | zero => intro m x y _ _; rfl
    | succ k ih =>
      intro m x y hk h
      obtain ⟨m, rfl⟩ : ∃ m', m = m' + 1 := ⟨m - 1, by omega⟩
      have hp : (0 : Int) < 256 ^ m := Int.pow_pos (by decide)
      have e0 : x % 256 = y % 256 := by
        have h1 : x % 256 ^ (m + 1) % 256 = y % 256 ^ (m + 1) % 256 := by rw [h]
        rwa [Int.emod_emod_of_dvd _ (Int.dvd_trans (Int.dvd_refl 256) ⟨256 ^ m, by rw [Int.pow_succ, Int.mul_comm]⟩), Int.emod_emod_of_dvd _ ⟨256 ^ m, by rw [Int.pow_succ, Int.mul_comm]⟩] at h1
      have e1 : x / 256 % 256 ^ m = y / 256 % 256 ^ m := by
        rw [Int.pow_succ] at h
        have hx := Int.emod_add_mul_ediv x 256
        have hy := Int.emod_add_mul_ediv y 256
        have h2 : ∀ z : Int, z % (256 ^ m * 256) = z % 256 + 256 * (z / 256 % 256 ^ m) := fun z => by
          have a1 := Int.emod_nonneg z (show (256 : Int) ≠ 0 by decide)
          have a2 := Int.emod_lt_of_pos z (show (0 : Int) < 256 by decide)
          have b1 := Int.emod_nonneg (z / 256) (show (256 : Int) ^ m ≠ 0 by omega)
          have b2 := Int.emod_lt_of_pos (z / 256) hp
          have c1 := Int.emod_add_mul_ediv (z / 256) (256 ^ m)
          have c2 := Int.emod_add_mul_ediv z 256
          have e : z = (z % 256 + 256 * (z / 256 % 256 ^ m)) + (256 ^ m * 256) * (z / 256 / 256 ^ m) := by
            have : (256 ^ m * 256) * (z / 256 / 256 ^ m) = 256 * (256 ^ m * (z / 256 / 256 ^ m)) := by
              rw [Int.mul_comm (256 ^ m) 256, Int.mul_assoc]
            rw [this]
            omega
          have hlt : z % 256 + 256 * (z / 256 % 256 ^ m) < 256 ^ m * 256 := by omega
          calc z % (256 ^ m * 256) = ((z % 256 + 256 * (z / 256 % 256 ^ m)) + (256 ^ m * 256) * (z / 256 / 256 ^ m)) % (256 ^ m * 256) := by rw [← e]
            _ = (z % 256 + 256 * (z / 256 % 256 ^ m)) % (256 ^ m * 256) := Int.add_mul_emod_self_left _ _ _
            _ = z % 256 + 256 * (z / 256 % 256 ^ m) := Int.emod_eq_of_lt (by omega) hlt
        rw [h2 x, h2 y, e0] at h
        omega
      rw [lowB, lowB, e0, ih m (x / 256) (y / 256) (by omega) e1]
  refine key n 8 _ _ hn ?_
  unfold u
  rw [show (18446744073709551616 : Int) = 256 ^ 8 by decide, Int.emod_emod_of_dvd _ (Int.dvd_refl _)]

/-- the numbers of permits -/
def pws (l : List Pm) : List Int := (l.map fun p => [u p.c, u p.p]).flatten
theorem pws_len (l : List Pm) : (pws l).length = 2 * l.length := by
  induction l with
  | nil => rfl
  | cons p l ih => simp only [pws, List.map_cons, List.flatten_cons, List.length_append, List.length_cons, List.length_nil] at *; omega
theorem pws_snoc (l : List Pm) (p : Pm) : pws (l ++ [p]) = pws l ++ [u p.c, u p.p] := by simp [pws]
theorem pws_in (l : List Pm) : ∀ x ∈ pws l, 0 ≤ x ∧ x ≤ 18446744073709551615 := by
  intro x hx
  unfold pws at hx
  obtain ⟨r, hr, hx⟩ := List.mem_flatten.1 hx
  obtain ⟨p, _, rfl⟩ := List.mem_map.1 hr
  simp at hx
  rcases hx with rfl | rfl <;> exact u_in _

/-- the three rows -/
def rws (b m : Int) (l : List Pm) (s : Int) : List (List Int) := [lowB 8 s, allB 4 [u b, u m], allB 4 (pws l)]
def sea (x : List Int) : List Int := x ++ lowB 4 (crc x : Nat)
/-- a ledger's bytes -/
def put (b m : Int) (l : List Pm) (s : Int) : List Int := sea (joinB (rws b m l s))
theorem sea_len (x : List Int) : (sea x).length = x.length + 4 := by unfold sea; rw [List.length_append, lowB_length]
theorem rws_len (b m : Int) (l : List Pm) (s : Int) : (joinB (rws b m l s)).length = 22 + 8 * l.length := by
  unfold rws
  rw [joinB_length]
  simp [lowB_length, allB_length, pws_len]
  omega
theorem put_len (b m : Int) (l : List Pm) (s : Int) : (put b m l s).length = 26 + 8 * l.length := by
  unfold put
  rw [sea_len, rws_len]; omega
theorem sea_in (x : List Int) (h : ∀ b ∈ x, 0 ≤ b ∧ b ≤ 255) : ∀ b ∈ sea x, 0 ≤ b ∧ b ≤ 255 := by
  intro b hb
  rcases List.mem_append.1 hb with hb | hb
  · exact h b hb
  · exact lowB_mem 4 _ b hb
theorem rws_in (b m : Int) (l : List Pm) (s : Int) : ∀ x ∈ joinB (rws b m l s), 0 ≤ x ∧ x ≤ 255 := joinB_mem _ fun r hr => by
  unfold rws at hr
  simp only [List.mem_cons, List.not_mem_nil, or_false] at hr
  rcases hr with rfl | rfl | rfl
  · exact lowB_mem 8 s
  · exact allB_mem 4 _
  · exact allB_mem 4 _
theorem put_in (b m : Int) (l : List Pm) (s : Int) : ∀ x ∈ put b m l s, 0 ≤ x ∧ x ≤ 255 := sea_in _ (rws_in b m l s)

/-- what lies ahead of a sum that is theirs -/
def opn (bs : List Int) : Option (List Int) :=
  if 4 ≤ bs.length ∧ bs.drop (bs.length - 4) = lowB 4 (crc (bs.take (bs.length - 4)) : Nat) then some (bs.take (bs.length - 4)) else none
theorem opn_sea (x : List Int) : opn (sea x) = some x := by
  have e : (sea x).length - 4 = x.length := by rw [sea_len]; omega
  have h1 : (sea x).take x.length = x := List.take_left
  have h2 : (sea x).drop x.length = lowB 4 (crc x : Nat) := List.drop_left
  unfold opn
  rw [e, h1, h2, if_pos ⟨by rw [sea_len]; omega, rfl⟩]
theorem opn_some {bs x : List Int} (h : opn bs = some x) : bs = sea x := by
  unfold opn at h
  split at h
  · rename_i hc
    injection h with h
    unfold sea
    rw [← h, ← hc.2, List.take_append_drop]
  · cases h

/-- the permits of a row of so many pairs -/
def gp : Nat → List Int → List Pm
  | 0, _ => []
  | q + 1, r => ⟨ofB (r.take 4), ofB ((r.drop 4).take 4)⟩ :: gp q (r.drop 8)
theorem gp_len (q : Nat) : ∀ r, (gp q r).length = q := by
  induction q with
  | zero => intro r; rfl
  | succ q ih => intro r; simp [gp, ih]
theorem gp_snoc (q : Nat) : ∀ r, gp (q + 1) r = gp q r ++ [⟨ofB ((r.drop (8 * q)).take 4), ofB ((r.drop (8 * q + 4)).take 4)⟩] := by
  induction q with
  | zero => intro r; simp [gp]
  | succ q ih =>
    intro r
    rw [gp, ih (r.drop 8), gp, List.drop_drop, List.drop_drop]
    have e1 : 8 + 8 * q = 8 * (q + 1) := by omega
    have e2 : 8 + (8 * q + 4) = 8 * (q + 1) + 4 := by omega
    rw [e1, e2]
    rfl
theorem grp_at (n : Nat) : ∀ (q : Nat) (r : List Int) (i : Nat), i < q → (grp q n r)[i]? = some (ofB ((r.drop (n * i)).take n)) := by
  intro q
  induction q with
  | zero => intro r i h; omega
  | succ q ih =>
    intro r i h
    rw [grp]
    cases i with
    | zero => simp
    | succ i =>
      rw [List.getElem?_cons_succ, ih (r.drop n) i (by omega), List.drop_drop, Nat.mul_succ, Nat.add_comm n]
theorem gp_pws (l : List Pm) (h : ∀ p ∈ l, (0 ≤ p.c ∧ p.c < 4294967296) ∧ 0 ≤ p.p ∧ p.p < 4294967296) : gp l.length (allB 4 (pws l)) = l := by
  induction l with
  | nil => rfl
  | cons p l ih =>
    have hp := h p List.mem_cons_self
    have e : allB 4 (pws (p :: l)) = lowB 4 (u p.c) ++ (lowB 4 (u p.p) ++ allB 4 (pws l)) := by simp [allB, pws]
    have e1 : u p.c = p.c := by unfold u; omega
    have e2 : u p.p = p.p := by unfold u; omega
    rw [e, List.length_cons, gp, e1, e2]
    have t1 : (lowB 4 p.c ++ (lowB 4 p.p ++ allB 4 (pws l))).take 4 = lowB 4 p.c := List.take_left' (lowB_length 4 _)
    have d1 : (lowB 4 p.c ++ (lowB 4 p.p ++ allB 4 (pws l))).drop 4 = lowB 4 p.p ++ allB 4 (pws l) := List.drop_left' (lowB_length 4 _)
    have d2 : (lowB 4 p.c ++ (lowB 4 p.p ++ allB 4 (pws l))).drop 8 = allB 4 (pws l) := by
      rw [show (8 : Nat) = 4 + 4 by rfl, ← List.drop_drop, d1, List.drop_left' (lowB_length 4 _)]
    rw [t1, d1, d2, List.take_left' (lowB_length 4 _), ih fun q hq => h q (List.mem_cons_of_mem _ hq), ofB_lowB 4 p.c (by omega) (by omega), ofB_lowB 4 p.p (by omega) (by omega)]

/-- what Get answers: the error, the ledger, the number -/
structure G where
  e : Int
  b : Int
  m : Int
  l : List Pm
  s : Int
def bad (e : Int) : G := ⟨e, 0, 0, [], 0⟩
/-- may a ledger without credit be one? -/
def may (b m : Int) (l : List Pm) : Bool := mayB ⟨b, m, 0, none, 0, l⟩
theorem may_eq (b m : Int) (l : List Pm) (A : Option Addr) (c : Nat) : mayB ⟨b, m, 0, A, c, l⟩ = may b m l := rfl
def isF : List (List Int) → Bool
  | [r0, r1, r2] => decide (r0.length = 8) && decide (r1.length = 8) && decide (r2.length % 8 = 0)
  | _ => false
def getR (rows : List (List Int)) : G := match rows with
  | [r0, r1, r2] => if r0.length = 8 ∧ r1.length = 8 ∧ r2.length % 8 = 0 then
      (if may (ofB (r1.take 4)) (ofB ((r1.drop 4).take 4)) (gp (r2.length / 8) r2) = true then ⟨0, ofB (r1.take 4), ofB ((r1.drop 4).take 4), gp (r2.length / 8) r2, ofB r0⟩ else bad 11) else bad 11
  | _ => bad 11
def get (bs : List Int) : G := match opn bs with
  | none => bad 12
  | some pre => match parts pre with
    | none => bad 10
    | some rows => getR rows

theorem ofB_lowB2 (L : Nat) (h : L ≤ 65535) (l : List Int) : ofB ((lowB 2 (L : Int) ++ l).take 2) = L := by
  rw [List.take_left' (lowB_length 2 _)]
  exact ofB_lowB 2 L (by omega) (by omega)
theorem parts_joinB (rs : List (List Int)) (h : ∀ r ∈ rs, r.length ≤ 65535) : parts (joinB rs) = some rs := by
  induction rs with
  | nil => rw [joinB, parts_nil]
  | cons r rs ih =>
    have h1 := h r (by simp)
    have e : joinB (r :: rs) = lowB 2 r.length ++ (r ++ joinB rs) := by rw [joinB, List.append_assoc]
    have hl : (joinB (r :: rs)).length = 2 + r.length + (joinB rs).length := by rw [e]; simp [lowB_length]; omega
    rw [parts_step _ r.length (by omega) (by rw [e]; exact ofB_lowB2 _ h1 _), if_neg (by omega), e]
    have d1 : (lowB 2 (r.length : Int) ++ (r ++ joinB rs)).drop (2 + r.length) = joinB rs := by
      rw [← List.drop_drop, List.drop_left' (lowB_length 2 _), List.drop_left]
    have d2 : ((lowB 2 (r.length : Int) ++ (r ++ joinB rs)).drop 2).take r.length = r := by
      rw [List.drop_left' (lowB_length 2 _), List.take_left]
    rw [d1, d2, ih (fun x hx => h x (by simp [hx]))]
    rfl

theorem may_parts {b m : Int} {l : List Pm} (h : may b m l = true) : (0 ≤ b ∧ b ≤ 1048576) ∧ (0 ≤ m ∧ m ≤ 1048576) ∧ ∀ p ∈ l, (0 ≤ p.c ∧ p.c < 64) ∧ 0 ≤ p.p ∧ p.p ≤ 1048576 := by
  unfold may mayB at h
  simp only [Bool.and_eq_true, decide_eq_true_eq] at h
  obtain ⟨⟨⟨⟨h1, h2⟩, _⟩, h4⟩, _⟩ := h
  refine ⟨pwr_iff.1 h1, pwr_iff.1 h2, ?_⟩
  have key : ∀ (l pre : List Pm), apart pre l = true → ∀ p ∈ l, okP p = true := by
    intro l
    induction l with
    | nil => intro _ _ p hp; cases hp
    | cons q l ih =>
      intro pre h p hp
      simp only [apart, Bool.and_eq_true] at h
      rcases List.mem_cons.1 hp with rfl | hp
      · exact h.1.1
      · exact ih _ h.2 p hp
  exact fun p hp => okP_iff.1 (key l [] h4 p hp)

theorem get_put {b m : Int} {l : List Pm} {s : Int} (h : may b m l = true) (hl : l.length ≤ 8000) (hs : 0 ≤ s ∧ s ≤ 18446744073709551615) : get (put b m l s) = ⟨0, b, m, l, s⟩ := by
  obtain ⟨hb, hm, hp⟩ := may_parts h
  have l1 : (allB 4 [u b, u m]).length = 8 := by rw [allB_length]; rfl
  have l2 : (allB 4 (pws l)).length = 8 * l.length := by rw [allB_length, pws_len]; omega
  have hr : ∀ r ∈ rws b m l s, r.length ≤ 65535 := fun r hr => by
    unfold rws at hr
    simp only [List.mem_cons, List.not_mem_nil, or_false] at hr
    rcases hr with rfl | rfl | rfl
    · rw [lowB_length]; omega
    · rw [l1]; omega
    · rw [l2]; omega
  unfold get put
  rw [opn_sea]
  simp only
  rw [parts_joinB _ hr]
  unfold rws getR
  simp only
  have e : allB 4 [u b, u m] = lowB 4 (u b) ++ lowB 4 (u m) := by simp [allB]
  have eb : u b = b := by unfold u; omega
  have em : u m = m := by unfold u; omega
  have x1 : ofB ((allB 4 [u b, u m]).take 4) = b := by
    rw [e, List.take_left' (lowB_length 4 _), eb, ofB_lowB 4 b (by omega) (by omega)]
  have x2 : ofB (((allB 4 [u b, u m]).drop 4).take 4) = m := by
    rw [e, List.drop_left' (lowB_length 4 _), List.take_of_length_le (by rw [lowB_length]; omega), em, ofB_lowB 4 m (by omega) (by omega)]
  have x3 : gp ((allB 4 (pws l)).length / 8) (allB 4 (pws l)) = l := by
    rw [l2, Nat.mul_div_cancel_left _ (by decide)]
    exact gp_pws l fun p hq => by have := hp p hq; omega
  have x4 : ofB (lowB 8 s) = s := ofB_lowB 8 s (by omega) (by omega)
  rw [if_pos ⟨lowB_length 8 s, l1, by rw [l2]; omega⟩, x1, x2, x3, x4, if_pos h]


/-- the place's ledger that counts, beside one that was told -/
def best (p : Int) (x y : G) : G := if y.e = 0 ∧ y.s % 2 = p ∧ x.s < y.s then ⟨0, y.b, y.m, y.l, y.s⟩ else x
def load (z0 z1 : List Int) : G := best 1 (best 0 (bad 0) (get z0)) (get z1)

/-- the place as it was, of whose bytes the first n came through -/
def torn (now ahead : List Int) (n : Nat) : List Int := if now.length ≤ n then now else now.take n ++ ahead.drop n
theorem torn_self (z : List Int) (n : Nat) : torn z z n = z := by
  unfold torn
  split
  · rfl
  · exact List.take_append_drop n z
theorem torn_in {z y : List Int} {n : Nat} (h : ∀ b ∈ z, 0 ≤ b ∧ b ≤ 255) (k : ∀ b ∈ y, 0 ≤ b ∧ b ≤ 255) : ∀ b ∈ torn z y n, 0 ≤ b ∧ b ≤ 255 := by
  unfold torn
  split
  · exact h
  · intro b hb
    rcases List.mem_append.1 hb with hb | hb
    · exact h b (List.mem_of_mem_take hb)
    · exact k b (List.mem_of_mem_drop hb)
theorem torn_len (z y : List Int) (n : Nat) : (torn z y n).length ≤ max z.length y.length := by
  unfold torn
  split
  · omega
  · rw [List.length_append, List.length_take, List.length_drop]; omega

end Go.Proofs.YtjedkkkhficmoaaDoor.JrnP
