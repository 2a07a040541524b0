/-
  The digits of a number in a base, and what sums, differences and products do to them. No Go in sight.
-/
import Derived.WalkKit
namespace Go.Proofs.Ytoikgkjkcampkaa

/-- Digit i of n in base B. -/
def dg (B n i : Nat) : Nat := n / B ^ i % B

/-- What goes over ahead of digit i when X and Y are added. -/
def cy (B X Y i : Nat) : Nat := (X % B ^ i + Y % B ^ i) / B ^ i

/-- What is borrowed ahead of digit i when Y is taken from X. -/
def bw (B X Y i : Nat) : Nat := if X % B ^ i < Y % B ^ i then 1 else 0

theorem dg_lt {B : Nat} (hB : 0 < B) (n i : Nat) : dg B n i < B := Nat.mod_lt _ hB

theorem mod_succ (B n i : Nat) : n % B ^ (i + 1) = n % B ^ i + B ^ i * dg B n i := by
  rw [Nat.pow_succ, Nat.mod_mul, dg]

theorem cy_zero (B X Y : Nat) : cy B X Y 0 = 0 := by simp [cy, Nat.mod_one]

theorem cy_le {B : Nat} (hB : 0 < B) (X Y i : Nat) : cy B X Y i ≤ 1 := by
  have hp : 0 < B ^ i := Nat.pow_pos hB
  have h1 := Nat.mod_lt X hp
  have h2 := Nat.mod_lt Y hp
  unfold cy
  have : (X % B ^ i + Y % B ^ i) / B ^ i < 2 := (Nat.div_lt_iff_lt_mul hp).2 (by omega)
  omega

theorem cy_succ {B : Nat} (hB : 0 < B) (X Y i : Nat) : cy B X Y (i + 1) = (dg B X i + dg B Y i + cy B X Y i) / B := by
  have hp : 0 < B ^ i := Nat.pow_pos hB
  unfold cy
  rw [mod_succ, mod_succ]
  rw [show X % B ^ i + B ^ i * dg B X i + (Y % B ^ i + B ^ i * dg B Y i) = (X % B ^ i + Y % B ^ i) + B ^ i * (dg B X i + dg B Y i) by rw [Nat.mul_add]; omega]
  rw [Nat.pow_succ, ← Nat.div_div_eq_div_mul, Nat.add_mul_div_left _ _ hp]
  congr 1
  omega

theorem dg_add {B : Nat} (hB : 0 < B) (X Y i : Nat) : dg B (X + Y) i = (dg B X i + dg B Y i + cy B X Y i) % B := by
  have hp : 0 < B ^ i := Nat.pow_pos hB
  have hX : X = X % B ^ i + B ^ i * (X / B ^ i) := (Nat.mod_add_div _ _).symm
  have hY : Y = Y % B ^ i + B ^ i * (Y / B ^ i) := (Nat.mod_add_div _ _).symm
  have hs : (X + Y) / B ^ i = (X % B ^ i + Y % B ^ i) / B ^ i + (X / B ^ i + Y / B ^ i) := by
    conv => lhs; rw [hX, hY]
    rw [show X % B ^ i + B ^ i * (X / B ^ i) + (Y % B ^ i + B ^ i * (Y / B ^ i)) = (X % B ^ i + Y % B ^ i) + B ^ i * (X / B ^ i + Y / B ^ i) by rw [Nat.mul_add]; omega]
    rw [Nat.add_mul_div_left _ _ hp]
  unfold dg cy
  rw [hs, show (X % B ^ i + Y % B ^ i) / B ^ i + (X / B ^ i + Y / B ^ i) = X / B ^ i + Y / B ^ i + (X % B ^ i + Y % B ^ i) / B ^ i by omega]
  rw [Nat.add_mod, Nat.add_mod (X / B ^ i) (Y / B ^ i)]
  conv => rhs; rw [Nat.add_mod]

/-- The carry out of n digits of numbers that have n: 1 just if the sum is B^n at least. -/
theorem cy_top {B : Nat} {X Y n : Nat} (hX : X < B ^ n) (hY : Y < B ^ n) : cy B X Y n = if B ^ n ≤ X + Y then 1 else 0 := by
  unfold cy
  rw [Nat.mod_eq_of_lt hX, Nat.mod_eq_of_lt hY]
  have hp : 0 < B ^ n := by omega
  split
  · apply Nat.le_antisymm
    · have := (Nat.div_lt_iff_lt_mul hp (x := X + Y) (y := 2)).2 (by omega)
      omega
    · exact (Nat.le_div_iff_mul_le hp).2 (by omega)
  · exact Nat.div_eq_of_lt (by omega)

theorem dg_mod {B : Nat} (n m i : Nat) (h : i < m) : dg B (n % B ^ m) i = dg B n i := by
  unfold dg
  obtain ⟨d, rfl⟩ : ∃ d, m = i + (d + 1) := ⟨m - i - 1, by omega⟩
  rw [Nat.pow_add, Nat.mod_mul_right_div_self, Nat.mod_mod_of_dvd _ (by rw [Nat.pow_succ]; exact Nat.dvd_mul_left _ _)]

theorem eq_of_dg {B : Nat} (hB : 0 < B) : ∀ (n : Nat) {X Y : Nat}, (∀ i, i < n → dg B X i = dg B Y i) → X % B ^ n = Y % B ^ n
  | 0, X, Y, _ => by simp [Nat.mod_one]
  | n + 1, X, Y, h => by rw [mod_succ, mod_succ, eq_of_dg hB n (fun i hi => h i (by omega)), h n (by omega)]

theorem eq_of_dg_lt {B : Nat} (hB : 0 < B) {n X Y : Nat} (hX : X < B ^ n) (hY : Y < B ^ n) (h : ∀ i, i < n → dg B X i = dg B Y i) : X = Y := by
  have := eq_of_dg hB n h
  rwa [Nat.mod_eq_of_lt hX, Nat.mod_eq_of_lt hY] at this

theorem bw_zero (B X Y : Nat) : bw B X Y 0 = 0 := by simp [bw, Nat.mod_one]
theorem bw_le (B X Y i : Nat) : bw B X Y i ≤ 1 := by unfold bw; split <;> omega

theorem bw_succ {B : Nat} (hB : 0 < B) (X Y i : Nat) : bw B X Y (i + 1) = if dg B X i < dg B Y i + bw B X Y i then 1 else 0 := by
  have hp : 0 < B ^ i := Nat.pow_pos hB
  have h1 := Nat.mod_lt X hp
  have h2 := Nat.mod_lt Y hp
  unfold bw
  rw [mod_succ, mod_succ]
  generalize dg B X i = x
  generalize dg B Y i = y
  generalize X % B ^ i = r at *
  generalize Y % B ^ i = s at *
  generalize B ^ i = P at *
  by_cases hxy : x < y
  · have : P * x + P ≤ P * y := by rw [← Nat.mul_succ]; exact Nat.mul_le_mul_left _ hxy
    rw [if_pos (by omega)]; split <;> rw [if_pos (by omega)]
  · by_cases hyx : y < x
    · have : P * y + P ≤ P * x := by rw [← Nat.mul_succ]; exact Nat.mul_le_mul_left _ hyx
      rw [if_neg (by omega)]; split <;> rw [if_neg (by omega)]
    · have hxy' : x = y := by omega
      subst hxy'
      by_cases hrs : r < s
      · rw [if_pos (by omega), if_pos hrs, if_pos (by omega)]
      · rw [if_neg (by omega), if_neg hrs, if_neg (by omega)]

/-- Digit i of what is left, modulo B^n, when Y is taken from X. -/
theorem dg_sub {B : Nat} (hB : 0 < B) (X Y n i : Nat) (hi : i < n) (hY : Y ≤ B ^ n) : dg B (X + B ^ n - Y) i = (dg B X i + B - dg B Y i - bw B X Y i) % B := by
  obtain ⟨D, hD⟩ : ∃ D, X + B ^ n - Y = D := ⟨_, rfl⟩
  rw [hD]
  have hDY : D + Y = X + B ^ n := by omega
  -- the digit of the sum D + Y
  have h1 := dg_add hB D Y i
  have h2 : dg B (D + Y) i = dg B X i := by
    rw [hDY]
    unfold dg
    obtain ⟨d, rfl⟩ : ∃ d, n = i + (d + 1) := ⟨n - i - 1, by omega⟩
    rw [Nat.pow_add, Nat.add_mul_div_left _ _ (Nat.pow_pos hB), Nat.pow_succ, Nat.add_mul_mod_self_right]
  have h3 : cy B D Y i = bw B X Y i := by
    have hp : 0 < B ^ i := Nat.pow_pos hB
    have e : (D + Y) % B ^ i = X % B ^ i := by
      rw [hDY]
      obtain ⟨d, rfl⟩ : ∃ d, n = i + (d + 1) := ⟨n - i - 1, by omega⟩
      rw [Nat.pow_add, Nat.add_mul_mod_self_left]
    rw [Nat.add_mod] at e
    have hd := Nat.mod_lt D hp
    have hy := Nat.mod_lt Y hp
    unfold cy bw
    rw [← e]
    generalize D % B ^ i = r at *
    generalize Y % B ^ i = s at *
    by_cases h : r + s < B ^ i
    · rw [Nat.mod_eq_of_lt h, Nat.div_eq_of_lt h, if_neg (by omega)]
    · rw [Nat.mod_eq_sub_mod (by omega), Nat.mod_eq_of_lt (by omega), if_pos (by omega)]
      apply Nat.le_antisymm
      · have := (Nat.div_lt_iff_lt_mul hp (x := r + s) (y := 2)).2 (by omega)
        omega
      · exact (Nat.le_div_iff_mul_le hp).2 (by omega)
  rw [h2, h3] at h1
  have b1 := dg_lt hB D i
  have b2 := dg_lt hB Y i
  have b3 := bw_le B X Y i
  have b4 := dg_lt hB X i
  generalize dg B D i = d at *
  generalize dg B Y i = y at *
  generalize dg B X i = x at *
  generalize bw B X Y i = b at *
  by_cases h : d + y + b < B
  · rw [Nat.mod_eq_of_lt h] at h1
    rw [Nat.mod_eq_sub_mod (by omega), Nat.mod_eq_of_lt (by omega)]
    omega
  · rw [Nat.mod_eq_sub_mod (by omega), Nat.mod_eq_of_lt (by omega)] at h1
    rw [Nat.mod_eq_of_lt (by omega)]
    omega

theorem bw_top {B X Y n : Nat} (hX : X < B ^ n) (hY : Y < B ^ n) : bw B X Y n = if X < Y then 1 else 0 := by
  unfold bw
  rw [Nat.mod_eq_of_lt hX, Nat.mod_eq_of_lt hY]

/-! ### words of 64 bits, parts of 16 -/
def w64 : Nat := 18446744073709551616
def w16 : Nat := 65536
def top : Nat := w64 ^ 4
theorem w64_pos : 0 < w64 := by unfold w64; omega
theorem w16_pos : 0 < w16 := by unfold w16; omega
theorem top_pos : 0 < top := Nat.pow_pos w64_pos

/-- Word i of n. -/
def wd (n i : Nat) : Int := (dg w64 n i : Nat)
theorem wd_lo (n i : Nat) : 0 ≤ wd n i := Int.natCast_nonneg _
theorem wd_lt (n i : Nat) : wd n i < 18446744073709551616 := by
  have := dg_lt w64_pos n i
  unfold wd; unfold w64 at *; omega

theorem wd_le (n i : Nat) : wd n i ≤ 18446744073709551615 := by have := wd_lt n i; omega

/-- The number of four words. -/
def ofWords (a b c d : Int) : Nat := a.toNat + w64 * (b.toNat + w64 * (c.toNat + w64 * d.toNat))

theorem ofWords_lt {a b c d : Int} (ha : a < 18446744073709551616) (hb : b < 18446744073709551616) (hc : c < 18446744073709551616) (hd : d < 18446744073709551616) : ofWords a b c d < top := by
  unfold ofWords top w64
  omega

theorem wd_ofWords {a b c d : Int} (ha0 : 0 ≤ a) (ha : a < 18446744073709551616) (hb0 : 0 ≤ b) (hb : b < 18446744073709551616) (hc0 : 0 ≤ c) (hc : c < 18446744073709551616) (hd0 : 0 ≤ d) (hd : d < 18446744073709551616) :
    wd (ofWords a b c d) 0 = a ∧ wd (ofWords a b c d) 1 = b ∧ wd (ofWords a b c d) 2 = c ∧ wd (ofWords a b c d) 3 = d := by
  unfold wd dg ofWords w64
  refine ⟨?_, ?_, ?_, ?_⟩ <;> simp <;> omega

theorem wd_mod (n i : Nat) (h : i < 4) : wd (n % top) i = wd n i := by
  unfold wd top
  rw [dg_mod n 4 i h]

/-- Part i of n: 16 bits. -/
def pt (n i : Nat) : Int := (dg w16 n i : Nat)
theorem pt_lo (n i : Nat) : 0 ≤ pt n i := Int.natCast_nonneg _
theorem pt_lt (n i : Nat) : pt n i < 65536 := by
  have := dg_lt w16_pos n i
  unfold pt; unfold w16 at *; omega
/-- What is left of word i behind k parts. -/
def wk (X i k : Nat) : Int := ((dg w64 X i / w16 ^ k : Nat) : Int)
theorem wk_lo (X i k : Nat) : 0 ≤ wk X i k := Int.natCast_nonneg _
theorem wk_le (X i k : Nat) : wk X i k ≤ 18446744073709551615 := by
  have h := dg_lt w64_pos X i
  have h2 : dg w64 X i / w16 ^ k ≤ dg w64 X i := Nat.div_le_self _ _
  have h3 : dg w64 X i / w16 ^ k < w64 := by omega
  unfold wk; unfold w64 at h3 ⊢; omega
theorem wk_zero (X i : Nat) : wk X i 0 = wd X i := by simp [wk, wd]
theorem wk_succ (X i k : Nat) : wk X i (k + 1) = wk X i k / 65536 := by
  unfold wk
  rw [Nat.pow_succ, ← Nat.div_div_eq_div_mul, Int.natCast_ediv]
  rfl
theorem w64_w16 : w64 = w16 ^ 4 := by decide
theorem dg_w16 (X i k : Nat) (hk : k < 4) : dg w64 X i / w16 ^ k % w16 = dg w16 X (4 * i + k) := by
  have h : dg w64 X i = X / w16 ^ (4 * i) % w16 ^ 4 := by rw [dg, w64_w16, Nat.pow_mul]
  rw [h]
  show dg w16 (X / w16 ^ (4 * i) % w16 ^ 4) k = _
  rw [dg_mod _ 4 k hk, dg, dg, Nat.div_div_eq_div_mul, ← Nat.pow_add]
theorem wk_pt (X i k : Nat) (hk : k < 4) : wk X i k % 65536 = pt X (4 * i + k) := by
  unfold wk pt
  rw [← dg_w16 X i k hk]
  rfl
/-- A word of four parts. -/
theorem wd_pt (X q : Nat) : wd X q = pt X (4 * q) + 65536 * pt X (4 * q + 1) + 4294967296 * pt X (4 * q + 2) + 281474976710656 * pt X (4 * q + 3) := by
  have h0 := dg_w16 X q 0 (by omega)
  have h1 := dg_w16 X q 1 (by omega)
  have h2 := dg_w16 X q 2 (by omega)
  have h3 := dg_w16 X q 3 (by omega)
  have hl := dg_lt w64_pos X q
  unfold wd pt
  simp only [Nat.add_zero] at h0
  rw [← h0, ← h1, ← h2, ← h3]
  generalize dg w64 X q = D at *
  unfold w16 w64 at *
  simp only [Nat.pow_zero, Nat.div_one, Nat.reducePow] at *
  omega
end Go.Proofs.Ytoikgkjkcampkaa
