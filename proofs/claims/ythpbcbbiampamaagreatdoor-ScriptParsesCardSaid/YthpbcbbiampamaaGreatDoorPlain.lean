/- Plain mathematics of numbers as bytes: no program is named here. -/
import Derived.WalkKit
namespace Go.Proofs.YthpbcbbiampamaaGreatDoor.Plain
open Go.RowKit

/-- the n lowest bytes of a number, the lowest one first -/
def lowB : Nat → Int → List Int
  | 0, _ => []
  | n + 1, x => x % 256 :: lowB n (x / 256)

theorem lowB_length (n : Nat) : ∀ x, (lowB n x).length = n := by
  induction n with
  | zero => intro x; rfl
  | succ n ih => intro x; simp [lowB, ih]

theorem ediv_pow_succ (x : Int) (n : Nat) : x / 256 / 256 ^ n = x / 256 ^ (n + 1) := by
  rw [Int.ediv_ediv_of_nonneg (by decide)]
  congr 1
  rw [Int.pow_succ, Int.mul_comm]

theorem lowB_snoc (n : Nat) : ∀ x, lowB (n + 1) x = lowB n x ++ [x / 256 ^ n % 256] := by
  induction n with
  | zero => intro x; simp [lowB]
  | succ n ih =>
    intro x
    rw [lowB, ih (x / 256), ediv_pow_succ, lowB]
    simp

theorem lowB_mem (n : Nat) : ∀ x, ∀ b ∈ lowB n x, 0 ≤ b ∧ b ≤ 255 := by
  induction n with
  | zero => intro x b hb; simp [lowB] at hb
  | succ n ih =>
    intro x b hb
    simp only [lowB, List.mem_cons] at hb
    rcases hb with rfl | hb
    · omega
    · exact ih _ b hb

/-- the number of bytes, the lowest one first -/
def ofB : List Int → Int
  | [] => 0
  | b :: l => b + 256 * ofB l

theorem pow256 (n : Nat) : (2 : Int) ^ (8 * n) = 256 ^ n := by
  rw [Int.pow_mul]; rfl

/-- all the numbers' bytes, one behind the other -/
def allB (n : Nat) (l : List Int) : List Int := (l.map (lowB n)).flatten

theorem allB_length (n : Nat) (l : List Int) : (allB n l).length = n * l.length := by
  induction l with
  | nil => simp [allB]
  | cons x l ih =>
    have e : allB n (x :: l) = lowB n x ++ allB n l := by simp [allB]
    rw [e, List.length_append, ih, lowB_length, List.length_cons, Nat.mul_add]
    omega

theorem allB_snoc (n : Nat) (l : List Int) (x : Int) : allB n (l ++ [x]) = allB n l ++ lowB n x := by
  simp [allB]

theorem allB_mem (n : Nat) (l : List Int) : ∀ b ∈ allB n l, 0 ≤ b ∧ b ≤ 255 := by
  intro b hb
  unfold allB at hb
  rw [List.mem_flatten] at hb
  obtain ⟨q, hq, hb⟩ := hb
  obtain ⟨x, _, rfl⟩ := List.mem_map.1 hq
  exact lowB_mem n x b hb

theorem take_snoc {α : Type} (l : List α) (k : Nat) (h : k < l.length) (d : α) : l.take (k + 1) = l.take k ++ [l[k]?.getD d] := by
  rw [List.take_succ_eq_append_getElem h]
  simp [h]
theorem get_mem {α : Type} (l : List α) (k : Nat) (h : k < l.length) (d : α) : l[k]?.getD d ∈ l := by
  simp [h]

theorem ofB_bounds (l : List Int) (h : ∀ b ∈ l, 0 ≤ b ∧ b ≤ 255) : 0 ≤ ofB l ∧ ofB l < 256 ^ l.length := by
  induction l with
  | nil => simp [ofB]
  | cons b l ih =>
    have h1 := h b (by simp)
    have h2 := ih (fun c hc => h c (by simp [hc]))
    simp only [ofB, List.length_cons, Int.pow_succ]
    omega

theorem ofB_snoc (l : List Int) (b : Int) : ofB (l ++ [b]) = ofB l + b * 256 ^ l.length := by
  induction l with
  | nil => simp [ofB]
  | cons c l ih =>
    simp only [List.cons_append, ofB, ih, List.length_cons, Int.pow_succ, Int.mul_add]
    rw [Int.mul_comm (256 ^ l.length) 256, Int.mul_left_comm b 256]
    omega

theorem nat_or_add (a b k : Nat) (ha : a < 2 ^ k) : a ||| (b * 2 ^ k) = a + b * 2 ^ k := by
  rw [Nat.or_comm, Nat.mul_comm, ← Nat.two_pow_add_eq_or_of_lt ha]
  omega

/-- what the loop of get makes of one byte more -/
theorem or_step (l : List Int) (b : Int) (hl : l.length < 8) (h : ∀ c ∈ l, 0 ≤ c ∧ c ≤ 255) (hb : 0 ≤ b ∧ b ≤ 255) :
    bits .or .u64 (ofB l) (IntKind.u64.wrap (b * 2 ^ (8 * l.length))) = ofB (l ++ [b]) := by
  obtain ⟨h0, h1⟩ := ofB_bounds l h
  have hp : (256 : Int) ^ l.length ≤ 72057594037927936 := by
    have hc : l.length = 0 ∨ l.length = 1 ∨ l.length = 2 ∨ l.length = 3 ∨ l.length = 4 ∨ l.length = 5 ∨ l.length = 6 ∨ l.length = 7 := by omega
    rcases hc with h | h | h | h | h | h | h | h <;> rw [h] <;> decide
  have hp0 : (0 : Int) < 256 ^ l.length := Int.pow_pos (by decide)
  have e : (2 : Int) ^ (8 * l.length) = 256 ^ l.length := pow256 _
  have hm0 : 0 ≤ b * 256 ^ l.length := Int.mul_nonneg hb.1 (by omega)
  have hm : b * 256 ^ l.length ≤ 255 * 72057594037927936 := Int.mul_le_mul hb.2 hp (by omega) (by decide)
  rw [e, IntKind.wrap_u64, Int.emod_eq_of_lt hm0 (by omega), ofB_snoc]
  obtain ⟨x, hx⟩ := Int.eq_ofNat_of_zero_le h0
  obtain ⟨y, hy⟩ := Int.eq_ofNat_of_zero_le hb.1
  rw [hx, hy]
  have e2 : (y : Int) * 256 ^ l.length = ((y * 2 ^ (8 * l.length) : Nat) : Int) := by
    rw [Int.natCast_mul]; congr 1; rw [← e]; simp
  rw [hx] at h1
  have e3 : x < 2 ^ (8 * l.length) := by
    have : ((x : Nat) : Int) < ((2 ^ (8 * l.length) : Nat) : Int) := by
      have : ((2 ^ (8 * l.length) : Nat) : Int) = 256 ^ l.length := by rw [← e]; simp
      omega
    omega
  rw [e2, u64_or_nat x _ (by omega) (by rw [hy] at hm; omega), nat_or_add _ _ _ e3]
  simp

/-- the numbers of q times n bytes -/
def grp : Nat → Nat → List Int → List Int
  | 0, _, _ => []
  | q + 1, n, bs => ofB (bs.take n) :: grp q n (bs.drop n)

theorem grp_length (q : Nat) : ∀ n bs, (grp q n bs).length = q := by
  induction q with
  | zero => intro n bs; rfl
  | succ q ih => intro n bs; simp [grp, ih]

theorem grp_snoc (q : Nat) : ∀ n bs, grp (q + 1) n bs = grp q n bs ++ [ofB ((bs.drop (n * q)).take n)] := by
  induction q with
  | zero => intro n bs; simp [grp]
  | succ q ih =>
    intro n bs
    rw [grp, ih n (bs.drop n), grp, List.drop_drop]
    simp [Nat.mul_succ, Nat.add_comm]

theorem ofB_lowB (n : Nat) : ∀ x : Int, 0 ≤ x → x < 256 ^ n → ofB (lowB n x) = x := by
  induction n with
  | zero => intro x h0 h1; simp at h1; simp [lowB, ofB]; try omega
  | succ n ih =>
    intro x h0 h1
    rw [Int.pow_succ] at h1
    rw [lowB, ofB, ih (x / 256) (by omega) (by omega)]
    omega

theorem ofB_high (n : Nat) : ∀ x : Int, ofB (lowB n x) + 256 ^ n * (x / 256 ^ n) = x := by
  induction n with
  | zero => intro x; simp [lowB, ofB]
  | succ n ih =>
    intro x
    have h := ih (x / 256)
    rw [ediv_pow_succ] at h
    rw [lowB, ofB, Int.pow_succ, Int.mul_comm (256 ^ n) 256, Int.mul_assoc]
    rw [Int.pow_succ, Int.mul_comm (256 ^ n) 256] at h
    omega

theorem ofB_low (n : Nat) (x : Int) : ofB (lowB n x) = x % 256 ^ n := by
  have h := ofB_high n x
  obtain ⟨h0, h1⟩ := ofB_bounds (lowB n x) (lowB_mem n x)
  rw [lowB_length] at h1
  rw [← Int.emod_eq_of_lt h0 h1, ← Int.add_mul_emod_self_left (ofB (lowB n x)) (256 ^ n) (x / 256 ^ n), h]

theorem grp_allB (n : Nat) (l : List Int) (h : ∀ x ∈ l, 0 ≤ x ∧ x < 256 ^ n) : grp l.length n (allB n l) = l := by
  induction l with
  | nil => rfl
  | cons x l ih =>
    have e : allB n (x :: l) = lowB n x ++ allB n l := by simp [allB]
    have hx := h x (by simp)
    rw [e, List.length_cons, grp, List.take_left' (lowB_length n x), List.drop_left' (lowB_length n x), ih (fun y hy => h y (by simp [hy])), ofB_lowB n x hx.1 hx.2]

/-- rows of bytes, each with its length ahead -/
def joinB : List (List Int) → List Int
  | [] => []
  | r :: l => lowB 2 r.length ++ r ++ joinB l

theorem joinB_snoc (l : List (List Int)) (r : List Int) : joinB (l ++ [r]) = joinB l ++ (lowB 2 r.length ++ r) := by
  induction l with
  | nil => simp [joinB]
  | cons x l ih => simp [joinB, ih]
theorem joinB_append (l r : List (List Int)) : joinB (l ++ r) = joinB l ++ joinB r := by
  induction l with
  | nil => simp [joinB]
  | cons x l ih => simp [joinB, ih]
theorem joinB_length (l : List (List Int)) : (joinB l).length = (l.map List.length).sum + 2 * l.length := by
  induction l with
  | nil => rfl
  | cons x l ih => simp [joinB, ih, lowB_length]; omega
theorem joinB_mem (l : List (List Int)) (h : ∀ r ∈ l, ∀ b ∈ r, 0 ≤ b ∧ b ≤ 255) : ∀ b ∈ joinB l, 0 ≤ b ∧ b ≤ 255 := by
  induction l with
  | nil => intro b hb; simp [joinB] at hb
  | cons x l ih =>
    intro b hb
    simp only [joinB, List.mem_append] at hb
    rcases hb with (hb | hb) | hb
    · exact lowB_mem 2 _ b hb
    · exact h x (by simp) b hb
    · exact ih (fun r hr => h r (by simp [hr])) b hb

/-- the rows of bytes, each with its length ahead; none where they end too early -/
def parts (l : List Int) : Option (List (List Int)) :=
  match l with
  | [] => some []
  | [_] => none
  | a :: b :: r => if r.length < (a + 256 * b).toNat then none else (parts (r.drop (a + 256 * b).toNat)).map (r.take (a + 256 * b).toNat :: ·)
termination_by l.length
decreasing_by simp; omega

theorem parts_nil : parts [] = some [] := by rw [parts]
theorem parts_one (l : List Int) (h : l.length = 1) : parts l = none := by
  match l, h with
  | [x], _ => rw [parts]
theorem parts_step (l : List Int) (N : Nat) (h2 : 2 ≤ l.length) (hN : ofB (l.take 2) = N) :
    parts l = if l.length < 2 + N then none else (parts (l.drop (2 + N))).map ((l.drop 2).take N :: ·) := by
  match l, h2 with
  | a :: b :: r, _ =>
    simp only [List.take, ofB] at hN
    have e : (a + 256 * b).toNat = N := by omega
    rw [parts, e]
    have hd : (a :: b :: r).drop (2 + N) = r.drop N := by rw [← List.drop_drop]; rfl
    rw [hd]
    by_cases h : r.length < N
    · rw [if_pos h, if_pos (by simp; omega)]
    · rw [if_neg h, if_neg (by simp; omega)]
      rfl
theorem ofB_two (l : List Int) (h2 : 2 ≤ l.length) (h : ∀ b ∈ l, 0 ≤ b ∧ b ≤ 255) : ∃ N : Nat, ofB (l.take 2) = N ∧ N ≤ 65535 := by
  have hb := ofB_bounds (l.take 2) (fun b hb => h b (List.mem_of_mem_take hb))
  rw [List.length_take, Nat.min_eq_left h2] at hb
  exact ⟨(ofB (l.take 2)).toNat, by omega, by omega⟩

theorem shift_back (x : Int) (n m : Nat) (h : n + m = 8) : x * 256 ^ m % 18446744073709551616 / 256 ^ m = x % 256 ^ n := by
  have hp : (0 : Int) < 256 ^ m := Int.pow_pos (by decide)
  have e : (18446744073709551616 : Int) = 256 ^ m * 256 ^ n := by
    rw [← Int.pow_add, Nat.add_comm, h]; decide
  rw [e, Int.mul_comm x, Int.mul_emod_mul_of_pos x _ hp, Int.mul_ediv_cancel_left _ (by omega)]

end Go.Proofs.YthpbcbbiampamaaGreatDoor.Plain
