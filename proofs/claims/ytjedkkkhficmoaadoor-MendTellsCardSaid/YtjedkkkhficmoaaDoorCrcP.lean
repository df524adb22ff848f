/- Plain mathematics of CRC-32: no program is named here. -/
import Derived.Test.YtjedkkkhficmoaaDoorPlain
namespace Go.Proofs.YtjedkkkhficmoaaDoor.Crc
open Go.RowKit Go.Proofs.YtjedkkkhficmoaaDoor.Plain

/-- one halving -/
def zs (a : Nat) : Nat := (a / 2) ^^^ (if a % 2 = 1 then 3988292384 else 0)
/-- so many halvings -/
def zn : Nat → Nat → Nat
  | 0, a => a
  | n + 1, a => zn n (zs a)

theorem xor_assoc4 (a b c d : Nat) : (a ^^^ b) ^^^ (c ^^^ d) = (a ^^^ c) ^^^ (b ^^^ d) := by
  rw [Nat.xor_assoc, Nat.xor_assoc, ← Nat.xor_assoc b, ← Nat.xor_assoc c, Nat.xor_comm b c]
theorem xor_div (a b : Nat) : (a ^^^ b) / 2 = a / 2 ^^^ b / 2 := by
  have h := Nat.shiftRight_xor_distrib (a := a) (b := b) (i := 1)
  simpa [Nat.shiftRight_eq_div_pow] using h
theorem xor_mod (a b : Nat) : (a ^^^ b) % 2 = (a + b) % 2 := by
  have h : (a ^^^ b).testBit 0 = (a.testBit 0 != b.testBit 0) := by rw [Nat.testBit_xor]
  simp only [Nat.testBit_zero] at h
  rcases Nat.mod_two_eq_zero_or_one a with ha | ha <;> rcases Nat.mod_two_eq_zero_or_one b with hb | hb <;>
    rcases Nat.mod_two_eq_zero_or_one (a ^^^ b) with hc | hc <;> simp [ha, hb, hc] at h <;> omega

theorem zs_xor (a b : Nat) : zs (a ^^^ b) = zs a ^^^ zs b := by
  unfold zs
  rw [xor_div, xor_mod]
  rcases Nat.mod_two_eq_zero_or_one a with ha | ha <;> rcases Nat.mod_two_eq_zero_or_one b with hb | hb
  · rw [if_neg (by omega), if_neg (by omega), if_neg (by omega)]; simp
  · rw [if_pos (by omega), if_neg (by omega), if_pos (by omega)]; simp [Nat.xor_assoc]
  · rw [if_pos (by omega), if_pos (by omega), if_neg (by omega)]; simp only [Nat.xor_zero]; rw [Nat.xor_assoc, Nat.xor_assoc, Nat.xor_comm (b / 2)]
  · rw [if_neg (by omega), if_pos (by omega), if_pos (by omega), xor_assoc4, Nat.xor_self]
theorem zn_xor (n : Nat) : ∀ a b, zn n (a ^^^ b) = zn n a ^^^ zn n b := by
  induction n with
  | zero => intro a b; rfl
  | succ n ih => intro a b; simp only [zn, zs_xor, ih]
theorem zs_zero : zs 0 = 0 := by decide
theorem zn_zero (n : Nat) : zn n 0 = 0 := by
  induction n with
  | zero => rfl
  | succ n ih => simp only [zn, zs_zero, ih]
theorem zn_add (m n a : Nat) : zn (m + n) a = zn n (zn m a) := by
  induction m generalizing a with
  | zero => simp [zn]
  | succ m ih => rw [Nat.succ_add]; simp only [zn, ih]
theorem zn_out (n a : Nat) : zn (n + 1) a = zs (zn n a) := by rw [zn_add]; rfl
theorem xor_lt (n a b : Nat) (ha : a < 2 ^ n) (hb : b < 2 ^ n) : a ^^^ b < 2 ^ n := Nat.xor_lt_two_pow ha hb
theorem xor_lt32 (a b : Nat) (ha : a < 4294967296) (hb : b < 4294967296) : a ^^^ b < 4294967296 := xor_lt 32 a b ha hb
theorem zs_lt (a : Nat) (h : a < 4294967296) : zs a < 4294967296 := by
  unfold zs
  refine xor_lt32 _ _ (by omega) ?_
  split <;> omega
theorem zn_lt (n : Nat) : ∀ a, a < 4294967296 → zn n a < 4294967296 := by
  induction n with
  | zero => intro a h; exact h
  | succ n ih => intro a h; exact ih _ (zs_lt a h)
theorem zs_even (a : Nat) : zs (2 * a) = a := by
  unfold zs
  rw [if_neg (by omega)]
  simp
theorem zn_pow (n a : Nat) : zn n (2 ^ n * a) = a := by
  induction n generalizing a with
  | zero => simp [zn]
  | succ n ih =>
    rw [Nat.pow_succ, Nat.mul_assoc, Nat.mul_comm (2 ^ n), Nat.mul_assoc]
    simp only [zn, zs_even]
    rw [Nat.mul_comm a]
    exact ih a
/-- no number of 32 bits but 0 is halved to 0 -/
theorem zs_inj (a : Nat) (h : a < 4294967296) (hz : zs a = 0) : a = 0 := by
  unfold zs at hz
  rcases Nat.mod_two_eq_zero_or_one a with ha | ha
  · rw [if_neg (by omega)] at hz
    simp at hz
    omega
  · rw [if_pos ha] at hz
    have h1 : (a / 2 ^^^ 3988292384).testBit 31 = true := by
      rw [Nat.testBit_xor, Nat.testBit_lt_two_pow (show a / 2 < 2 ^ 31 by omega)]
      decide
    rw [hz] at h1
    simp at h1
theorem zn_inj (n : Nat) : ∀ a, a < 4294967296 → zn n a = 0 → a = 0 := by
  induction n with
  | zero => intro a _ h; exact h
  | succ n ih => intro a h hz; exact zs_inj a h (ih _ (zs_lt a h) hz)

/-- what half a byte does -/
def tab : List Nat := [0, 498536548, 997073096, 651767980, 1994146192, 1802195444, 1303535960, 1342533948, 3988292384, 4027552580, 3604390888, 3412177804, 2607071920, 2262029012, 2685067896, 3183342108]
theorem tab_get (r : Nat) (h : r < 16) : tab[r]? = some (zn 4 r) := by
  have : ∀ r : Fin 16, tab[r.val]? = some (zn 4 r.val) := by decide
  exact this ⟨r, h⟩
theorem split_low (n a : Nat) : a = 2 ^ n * (a / 2 ^ n) ^^^ a % 2 ^ n := by
  apply Nat.eq_of_testBit_eq
  intro i
  rw [Nat.testBit_xor, Nat.testBit_two_pow_mul, Nat.testBit_mod_two_pow, Nat.testBit_div_two_pow]
  by_cases hi : i < n
  · simp [hi, show ¬ n ≤ i by omega]
  · simp [hi, show n ≤ i by omega, Nat.sub_add_cancel (show n ≤ i by omega)]
theorem nibble (a : Nat) : zn 4 a = a / 16 ^^^ (tab[a % 16]?.getD 0) := by
  rw [tab_get _ (Nat.mod_lt _ (by decide))]
  have e := split_low 4 a
  rw [show (2 : Nat) ^ 4 = 16 from rfl] at e
  rw [e, zn_xor, ← e]
  have := zn_pow 4 (a / 16)
  rw [show (2 : Nat) ^ 4 = 16 from rfl] at this
  rw [this]
  rfl

/-- gone on by a byte, by bytes -/
def byte1 (s : Nat) (b : Int) : Nat := zn 8 (s ^^^ b.toNat)
def upd (s : Nat) (bs : List Int) : Nat := bs.foldl byte1 s
theorem upd_nil (s : Nat) : upd s [] = s := rfl
theorem upd_cons (s : Nat) (b : Int) (bs : List Int) : upd s (b :: bs) = upd (byte1 s b) bs := rfl
theorem upd_append (s : Nat) (a b : List Int) : upd s (a ++ b) = upd (upd s a) b := by simp [upd]
theorem upd_snoc (s : Nat) (a : List Int) (b : Int) : upd s (a ++ [b]) = byte1 (upd s a) b := by simp [upd]
theorem byte_lt (s : Nat) (b : Int) (hs : s < 4294967296) (hb : 0 ≤ b ∧ b ≤ 255) : byte1 s b < 4294967296 :=
  zn_lt 8 _ (xor_lt32 _ _ hs (by omega))
theorem upd_lt (bs : List Int) : ∀ s, s < 4294967296 → (∀ b ∈ bs, 0 ≤ b ∧ b ≤ 255) → upd s bs < 4294967296 := by
  induction bs with
  | nil => intro s h _; exact h
  | cons b bs ih => intro s h hb; exact ih _ (byte_lt s b h (hb b (by simp))) (fun c hc => hb c (by simp [hc]))
/-- the sum of bytes -/
def crc (bs : List Int) : Nat := 4294967295 - upd 4294967295 bs
theorem crc_lt (bs : List Int) : crc bs < 4294967296 := by unfold crc; omega
theorem flip_xor (a : Nat) (h : a < 4294967296) : 4294967295 - a = a ^^^ 4294967295 := by
  apply Nat.eq_of_testBit_eq
  intro i
  have := Nat.testBit_two_pow_sub_succ (x := a) (n := 32) h i
  rw [show (2 : Nat) ^ 32 - (a + 1) = 4294967295 - a by omega] at this
  rw [this, Nat.testBit_xor, show (4294967295 : Nat) = 2 ^ 32 - 1 from rfl, Nat.testBit_two_pow_sub_one]
  by_cases hi : i < 32
  · simp [hi]
  · simp [hi, Nat.testBit_lt_two_pow (Nat.lt_of_lt_of_le h (show (2 : Nat) ^ 32 ≤ 2 ^ i from Nat.pow_le_pow_right (by decide) (by omega)))]

/-- two steps by half a byte are a byte -/
theorem byte_nibbles (s : Nat) (b : Int) : byte1 s b = zn 4 (zn 4 (s ^^^ b.toNat)) := by
  unfold byte1
  rw [← zn_add]

theorem upd_xor (bs : List Int) : ∀ s d, upd (s ^^^ d) bs = upd s bs ^^^ zn (8 * bs.length) d := by
  induction bs with
  | nil => intro s d; rfl
  | cons b bs ih =>
    intro s d
    have e : byte1 (s ^^^ d) b = byte1 s b ^^^ zn 8 d := by
      unfold byte1
      rw [Nat.xor_assoc, Nat.xor_comm d, ← Nat.xor_assoc, zn_xor]
    rw [upd_cons, e, ih, upd_cons, ← zn_add, List.length_cons]
    congr 2
    omega

/-- a bit that is turned -/
theorem upd_turn (a c : List Int) (b b' : Int) (k s : Nat) (hk : k < 8) (hb : b'.toNat = b.toNat ^^^ 2 ^ k) :
    upd s (a ++ b' :: c) = upd s (a ++ b :: c) ^^^ zn (8 * (c.length + 1) - k) 1 := by
  have h1 : byte1 (upd s a) b' = byte1 (upd s a) b ^^^ zn (8 - k) 1 := by
    unfold byte1
    rw [hb, ← Nat.xor_assoc, zn_xor]
    congr 1
    have h := zn_pow k 1
    rw [Nat.mul_one] at h
    rw [show (8 : Nat) = k + (8 - k) by omega, zn_add, h]
    congr 1
    omega
  rw [upd_append, upd_append, upd_cons, upd_cons, h1, upd_xor, ← zn_add]
  congr 2
  omega

theorem ofB4 (x : Nat) (h : x < 4294967296) : upd x (lowB 4 x) = 0 := by
  have h0 : ∀ y : Nat, byte1 y ((y : Int) % 256) = y / 256 := by
    intro y
    unfold byte1
    have e : ((y : Int) % 256).toNat = y % 256 := by omega
    have h := split_low 8 y
    rw [show (2 : Nat) ^ 8 = 256 from rfl] at h
    rw [e]
    have e2 : y ^^^ y % 256 = 256 * (y / 256) := by
      conv => lhs; lhs; rw [h]
      rw [Nat.xor_assoc, Nat.xor_self, Nat.xor_zero]
    have := zn_pow 8 (y / 256)
    rw [show (2 : Nat) ^ 8 = 256 from rfl] at this
    rw [e2, this]
  have e : ∀ y : Nat, (y : Int) / 256 = ((y / 256 : Nat) : Int) := by intro y; omega
  simp only [lowB, upd_cons, upd_nil, h0, e]
  omega

theorem lowB_xor (n : Nat) : ∀ (x y z : Int), 0 ≤ x → 0 ≤ y → 0 ≤ z → z.toNat = x.toNat ^^^ y.toNat → ∀ s, upd s (lowB n z) = upd s (lowB n x) ^^^ upd 0 (lowB n y) := by
  induction n with
  | zero => intro x y z _ _ _ _ s; simp [lowB, upd_nil]
  | succ n ih =>
    intro x y z hx hy hz h s
    have hd : (z / 256).toNat = (x / 256).toNat ^^^ (y / 256).toNat := by
      have h1 := Nat.shiftRight_xor_distrib (a := x.toNat) (b := y.toNat) (i := 8)
      rw [← h] at h1
      simp only [Nat.shiftRight_eq_div_pow] at h1
      have e : ∀ t : Int, 0 ≤ t → (t / 256).toNat = t.toNat / 2 ^ 8 := by intro t ht; omega
      rw [e z hz, e x hx, e y hy, h1]
    have hm : (z % 256).toNat = (x % 256).toNat ^^^ (y % 256).toNat := by
      have h1 : (x.toNat ^^^ y.toNat) % 2 ^ 8 = x.toNat % 2 ^ 8 ^^^ y.toNat % 2 ^ 8 := Nat.xor_mod_two_pow
      rw [← h] at h1
      have e : ∀ t : Int, 0 ≤ t → (t % 256).toNat = t.toNat % 2 ^ 8 := by intro t ht; omega
      rw [e z hz, e x hx, e y hy, h1]
    simp only [lowB, upd_cons]
    have e : byte1 s (z % 256) = byte1 s (x % 256) ^^^ byte1 0 (y % 256) := by
      unfold byte1
      rw [hm, ← Nat.xor_assoc, zn_xor, Nat.zero_xor]
    rw [e, upd_xor, ih (x / 256) (y / 256) (z / 256) (by omega) (by omega) (by omega) hd, lowB_length, Nat.xor_assoc]
    congr 1
    have h2 := upd_xor (lowB n (y / 256)) 0 (byte1 0 (y % 256))
    rw [Nat.zero_xor, lowB_length] at h2
    exact h2.symm

/-- all bytes that are sealed have one sum -/
theorem upd_sealed (bs : List Int) (h : ∀ b ∈ bs, 0 ≤ b ∧ b ≤ 255) : upd 4294967295 (bs ++ lowB 4 (crc bs : Nat)) = 3736805603 := by
  have hu := upd_lt bs 4294967295 (by decide) h
  rw [upd_append]
  unfold crc
  generalize upd 4294967295 bs = u at *
  have h1 := lowB_xor 4 (u : Int) (4294967295 : Int) ((4294967295 - u : Nat) : Int) (by omega) (by omega) (by omega) (by rw [Int.toNat_natCast, Int.toNat_natCast, flip_xor u hu]; rfl) u
  rw [h1, ofB4 u hu, Nat.zero_xor]
  decide
theorem crc_sealed (bs : List Int) (h : ∀ b ∈ bs, 0 ≤ b ∧ b ≤ 255) : crc (bs ++ lowB 4 (crc bs : Nat)) = 558161692 := by
  rw [crc, upd_sealed bs h]

/-- the sum of three rows, xored -/
theorem upd_three (n : Nat) : ∀ (a b c d : List Int) (s t u : Nat), a.length = n → b.length = n → c.length = n → d.length = n →
    (∀ i, i < n → (d[i]?.getD 0).toNat = (a[i]?.getD 0).toNat ^^^ (b[i]?.getD 0).toNat ^^^ (c[i]?.getD 0).toNat) →
    upd (s ^^^ t ^^^ u) d = upd s a ^^^ upd t b ^^^ upd u c := by
  induction n with
  | zero =>
    intro a b c d s t u ha hb hc hd _
    rw [List.eq_nil_of_length_eq_zero ha, List.eq_nil_of_length_eq_zero hb, List.eq_nil_of_length_eq_zero hc, List.eq_nil_of_length_eq_zero hd]
    rfl
  | succ n ih =>
    intro a b c d s t u ha hb hc hd h
    match a, b, c, d, ha, hb, hc, hd with
    | x :: a, y :: b, z :: c, v :: d, ha, hb, hc, hd =>
      simp only [upd_cons]
      have h0 := h 0 (by omega)
      simp at h0
      have e : byte1 (s ^^^ t ^^^ u) v = byte1 s x ^^^ byte1 t y ^^^ byte1 u z := by
        unfold byte1
        rw [h0, ← zn_xor, ← zn_xor]
        congr 1
        rw [xor_assoc4 (s ^^^ t) u, xor_assoc4 s t]
      rw [e]
      exact ih a b c d _ _ _ (by simpa using ha) (by simpa using hb) (by simpa using hc) (by simpa using hd) (fun i hi => by
        have := h (i + 1) (by omega)
        simpa using this)
theorem crc_three (n : Nat) (a b c d : List Int) (ha : a.length = n) (hb : b.length = n) (hc : c.length = n) (hd : d.length = n)
    (ba : ∀ x ∈ a, 0 ≤ x ∧ x ≤ 255) (bb : ∀ x ∈ b, 0 ≤ x ∧ x ≤ 255) (bc : ∀ x ∈ c, 0 ≤ x ∧ x ≤ 255) (bd : ∀ x ∈ d, 0 ≤ x ∧ x ≤ 255)
    (h : ∀ i, i < n → (d[i]?.getD 0).toNat = (a[i]?.getD 0).toNat ^^^ (b[i]?.getD 0).toNat ^^^ (c[i]?.getD 0).toNat) :
    crc d = crc a ^^^ crc b ^^^ crc c := by
  have h1 := upd_three n a b c d 4294967295 4294967295 4294967295 ha hb hc hd h
  rw [Nat.xor_self, Nat.zero_xor] at h1
  unfold crc
  rw [flip_xor _ (upd_lt a _ (by decide) ba), flip_xor _ (upd_lt b _ (by decide) bb), flip_xor _ (upd_lt c _ (by decide) bc), flip_xor _ (upd_lt d _ (by decide) bd), h1,
    xor_assoc4 (upd 4294967295 a), Nat.xor_self, Nat.xor_zero, ← Nat.xor_assoc]

end Go.Proofs.YtjedkkkhficmoaaDoor.Crc
