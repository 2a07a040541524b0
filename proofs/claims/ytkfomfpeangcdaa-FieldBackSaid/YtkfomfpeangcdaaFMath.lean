/-
  What stands behind a product taken modulo an odd number by words, and behind its inverse modulo 2^64. No Go in sight.
-/
import Derived.Test.YtkfomfpeangcdaaMath
namespace Go.Proofs.Ytkfomfpeangcdaa

def top8 : Nat := w64 ^ 8
theorem top8_eq : top8 = top * top := by unfold top8 top; rw [← Nat.pow_add]
theorem top8_pos : 0 < top8 := Nat.pow_pos w64_pos
theorem w64_val : w64 = 18446744073709551616 := rfl

theorem div_succ' (B n i : Nat) : n / B ^ (i + 1) = n / B ^ i / B := by rw [Nat.pow_succ, Nat.div_div_eq_div_mul]
/-- A digit put in place. -/
theorem setw {B : Nat} (hB : 0 < B) (Z k n v : Nat) (hk : k < n) (hZ : Z < B ^ n) (hv : v < B) :
    ∃ Z', Z' < B ^ n ∧ (∀ m, dg B Z' m = if m = k then v else dg B Z m) ∧ Z' + B ^ k * dg B Z k = Z + B ^ k * v := by
  have hP : 0 < B ^ k := Nat.pow_pos hB
  have e1 : B ^ k * (Z / B ^ k) + Z % B ^ k = Z := Nat.div_add_mod _ _
  have e2 : B * (Z / B ^ k / B) + Z / B ^ k % B = Z / B ^ k := Nat.div_add_mod _ _
  have hr := Nat.mod_lt Z hP
  have hq : Z / B ^ k / B < B ^ (n - (k + 1)) := by
    rw [← div_succ', Nat.div_lt_iff_lt_mul (Nat.pow_pos hB), ← Nat.pow_add, show n - (k + 1) + (k + 1) = n by omega]; exact hZ
  have hn : B ^ n = B ^ k * (B * B ^ (n - (k + 1))) := by
    rw [← Nat.mul_assoc, ← Nat.pow_succ, ← Nat.pow_add]; congr 1; omega
  have hd : dg B Z k = Z / B ^ k % B := rfl
  have hdm : ∀ j, dg B Z (k + 1 + j) = Z / B ^ k / B / B ^ j % B := by
    intro j; unfold dg; rw [Nat.pow_add, ← Nat.div_div_eq_div_mul, div_succ']
  have hlo : ∀ j, j < k → dg B Z j = dg B (Z % B ^ k) j := fun j hj => (dg_mod Z k j hj).symm
  rw [hd, hn]
  clear hd hn hZ
  generalize Z / B ^ k / B = q at *
  generalize Z / B ^ k % B = d at *
  generalize Z / B ^ k = a at *
  generalize Z % B ^ k = r at *
  have hz : r + B ^ k * (v + B * q) = r + B ^ k * v + B ^ k * (B * q) := by rw [Nat.mul_add, Nat.add_assoc]
  refine ⟨r + B ^ k * (v + B * q), ?_, ?_, ?_⟩
  · have : v + B * q + 1 ≤ B * B ^ (n - (k + 1)) := by
      have : B * (q + 1) ≤ B * B ^ (n - (k + 1)) := Nat.mul_le_mul_left _ hq
      rw [Nat.mul_add] at this; omega
    have := Nat.mul_le_mul_left (B ^ k) this
    rw [Nat.mul_add] at this; omega
  · have hdiv : (r + B ^ k * (v + B * q)) / B ^ k = v + B * q := by
      rw [Nat.add_mul_div_left _ _ hP, Nat.div_eq_of_lt hr, Nat.zero_add]
    intro m
    by_cases h : m = k
    · rw [if_pos h, h]
      unfold dg
      rw [hdiv, Nat.add_mul_mod_self_left, Nat.mod_eq_of_lt hv]
    · rw [if_neg h]
      by_cases hlt : m < k
      · rw [← dg_mod _ k m hlt, Nat.add_mul_mod_self_left, Nat.mod_eq_of_lt hr, hlo m hlt]
      · obtain ⟨j, rfl⟩ : ∃ j, m = k + 1 + j := ⟨m - (k + 1), by omega⟩
        rw [hdm]
        unfold dg
        rw [Nat.pow_add, ← Nat.div_div_eq_div_mul, div_succ', hdiv, Nat.add_mul_div_left _ _ hB, Nat.div_eq_of_lt hv, Nat.zero_add]
  · rw [hz, ← e1, ← e2, Nat.mul_add]
    omega

theorem setwd (Z k : Nat) (v : Int) (hk : k < 8) (hZ : Z < top8) (h0 : 0 ≤ v) (h1 : v ≤ 18446744073709551615) :
    ∃ Z', Z' < top8 ∧ (∀ m, wd Z' m = if m = k then v else wd Z m) ∧ Z' + w64 ^ k * dg w64 Z k = Z + w64 ^ k * v.toNat := by
  obtain ⟨Z', a, b, c⟩ := setw w64_pos Z k 8 v.toNat hk hZ (by unfold w64; omega)
  refine ⟨Z', a, fun m => ?_, c⟩
  unfold wd
  rw [b m]
  split
  · omega
  · rfl

/-- A column. -/
theorem col_step {B Z Z' Z0 t m c c' x i j M : Nat} (hM : m = dg B M j) (e : Z + c * B ^ (i + j) = Z0 + t * (M % B ^ j) * B ^ i)
    (hx : x + B * c' = t * m + c + dg B Z (i + j)) (hZ : Z' + B ^ (i + j) * dg B Z (i + j) = Z + B ^ (i + j) * x) :
    Z' + c' * B ^ (i + (j + 1)) = Z0 + t * (M % B ^ (j + 1)) * B ^ i := by
  rw [mod_succ, ← hM, ← Nat.add_assoc i j 1, Nat.pow_succ B (i + j)]
  have h1 : t * (M % B ^ j + B ^ j * m) * B ^ i = t * (M % B ^ j) * B ^ i + B ^ (i + j) * (t * m) := by
    rw [Nat.mul_add, Nat.add_mul, Nat.pow_add]
    congr 1
    rw [Nat.mul_left_comm t, Nat.mul_comm (B ^ i), Nat.mul_comm (B ^ j * B ^ i), Nat.mul_comm (B ^ j), Nat.mul_assoc]
  have h2 := congrArg (fun z => B ^ (i + j) * z) hx
  simp only [Nat.mul_add] at h2
  rw [h1]
  have h3 : c' * (B ^ (i + j) * B) = B ^ (i + j) * (B * c') := by rw [Nat.mul_comm c', Nat.mul_assoc]
  rw [h3]
  rw [Nat.mul_comm c] at e
  generalize B ^ (i + j) * (B * c') = p1 at *
  generalize B ^ (i + j) * (t * m) = p2 at *
  generalize B ^ (i + j) * c = p3 at *
  generalize B ^ (i + j) * dg B Z (i + j) = p4 at *
  generalize B ^ (i + j) * x = p5 at *
  omega

theorem low_dvd {B Z : Nat} {k : Nat} (h : Z % B ^ k = 0) : Z = B ^ k * (Z / B ^ k) := by
  have := Nat.div_add_mod Z (B ^ k); omega

/-- A row. -/
theorem row_done {B X M Z Z1 Z2 T t c o o' x k : Nat} (hlow : Z % B ^ k = 0) (hT : T < B ^ k) (ht : t < B) (hM : M < B ^ 4) (e : Z + o * B ^ (k + 4) = X + T * M)
    (ht0 : (dg B Z k + t * dg B M 0) % B = 0) (h1 : Z1 + c * B ^ (k + 4) = Z + t * (M % B ^ 4) * B ^ k) (hx : x + B * o' = dg B Z1 (k + 4) + c + o)
    (h2 : Z2 + B ^ (k + 4) * dg B Z1 (k + 4) = Z1 + B ^ (k + 4) * x) :
    Z2 % B ^ (k + 1) = 0 ∧ T + B ^ k * t < B ^ (k + 1) ∧ Z2 + o' * B ^ (k + 1 + 4) = X + (T + B ^ k * t) * M := by
  have hz := low_dvd hlow
  rw [Nat.mod_eq_of_lt hM] at h1
  have hp5 : B ^ (k + 1 + 4) = B ^ (k + 4) * B := by rw [← Nat.pow_succ, show k + 1 + 4 = k + 4 + 1 by omega]
  have hq : B ^ (k + 4) = B ^ (k + 1) * B ^ 3 := by rw [← Nat.pow_add, show k + 1 + 3 = k + 4 by omega]
  have f : Z2 + o' * B ^ (k + 1 + 4) = Z + t * M * B ^ k + o * B ^ (k + 4) := by
    have h3 := congrArg (fun z => B ^ (k + 4) * z) hx
    simp only [Nat.mul_add] at h3
    rw [hp5, Nat.mul_comm o', Nat.mul_assoc (B ^ (k + 4)), Nat.mul_comm o]
    rw [Nat.mul_comm c] at h1
    generalize B ^ (k + 4) * dg B Z1 (k + 4) = p1 at *
    generalize B ^ (k + 4) * x = p2 at *
    generalize B ^ (k + 4) * c = p3 at *
    generalize B ^ (k + 4) * o = p4 at *
    generalize B ^ (k + 4) * (B * o') = p5 at *
    omega
  refine ⟨?_, ?_, ?_⟩
  · have g : (Z2 + o' * B ^ (k + 1 + 4)) % B ^ (k + 1) = Z2 % B ^ (k + 1) := by
      rw [hp5, hq, Nat.mul_comm o', Nat.mul_assoc, Nat.mul_assoc, Nat.add_mul_mod_self_left]
    rw [← g, f, hq, Nat.mul_comm o, Nat.mul_assoc (B ^ (k + 1)), Nat.add_mul_mod_self_left]
    have hd : (Z / B ^ k + t * M) % B = 0 := by
      have : dg B Z k = Z / B ^ k % B := rfl
      rw [this] at ht0
      have h0 : dg B M 0 = M % B := by unfold dg; rw [Nat.pow_zero, Nat.div_one]
      rw [h0, Nat.mod_add_mod, Nat.add_mod, Nat.mul_mod, Nat.mod_mod, ← Nat.mul_mod, ← Nat.add_mod] at ht0
      exact ht0
    rw [hz, Nat.mul_comm (t * M), ← Nat.mul_add, Nat.pow_succ, Nat.mul_mod_mul_left, hd, Nat.mul_zero]
  · rw [Nat.pow_succ]
    have : B ^ k * (t + 1) ≤ B ^ k * B := Nat.mul_le_mul_left _ ht
    rw [Nat.mul_add] at this; omega
  · rw [f, Nat.add_mul, Nat.mul_right_comm t M, Nat.mul_comm (B ^ k) t]
    generalize t * B ^ k * M = p3 at *
    generalize o * B ^ (k + 4) = p1 at *
    generalize T * M = p2 at *
    omega

/-- The factor that makes a word 0. -/
theorem times_zero {d n m : Int} (h : (18446744073709551616 : Int) ∣ m * n - 1) :
    (d + (-d % 18446744073709551616 * n) % 18446744073709551616 * m) % 18446744073709551616 = 0 := by
  have e1 := Int.emod_add_mul_ediv (-d) 18446744073709551616
  have e2 := Int.emod_add_mul_ediv (-d % 18446744073709551616 * n) 18446744073709551616
  generalize -d % 18446744073709551616 * n / 18446744073709551616 = q2 at *
  generalize -d % 18446744073709551616 * n % 18446744073709551616 = t at *
  generalize -d / 18446744073709551616 = q1 at *
  generalize -d % 18446744073709551616 = s at *
  obtain ⟨c, hc⟩ := h
  apply Int.emod_eq_zero_of_dvd
  refine ⟨-d * c - q1 * n * m - q2 * m, ?_⟩
  have et : t = s * n - 18446744073709551616 * q2 := by omega
  have es : s = -d - 18446744073709551616 * q1 := by omega
  have hmn : m * n = 18446744073709551616 * c + 1 := by omega
  rw [et, es]
  have : (-d - 18446744073709551616 * q1) * n * m = (-d - 18446744073709551616 * q1) * (m * n) := by rw [Int.mul_assoc, Int.mul_comm n]
  simp only [Int.sub_mul, Int.mul_sub, Int.neg_mul, Int.mul_assoc] at *
  rw [Int.mul_comm n m, hmn]
  simp only [Int.mul_add, Int.mul_one]
  have e3 : d * (18446744073709551616 * c) = 18446744073709551616 * (d * c) := by rw [Int.mul_left_comm]
  rw [e3]
  have e4 : q1 * (18446744073709551616 * c) = 18446744073709551616 * (q1 * c) := by rw [Int.mul_left_comm]
  rw [e4]
  omega

/-! ### Newton's steps -/
theorem newton {D E m x : Int} (h : D ∣ m * x - 1) (hE : E ∣ D * D) (hW : E ∣ 18446744073709551616) :
    E ∣ m * (x * ((2 - m * x % 18446744073709551616) % 18446744073709551616) % 18446744073709551616) - 1 := by
  obtain ⟨a, ha⟩ := h
  have e1 := Int.emod_add_mul_ediv (m * x) 18446744073709551616
  have e2 := Int.emod_add_mul_ediv (2 - m * x % 18446744073709551616) 18446744073709551616
  have e3 := Int.emod_add_mul_ediv (x * ((2 - m * x % 18446744073709551616) % 18446744073709551616)) 18446744073709551616
  generalize x * ((2 - m * x % 18446744073709551616) % 18446744073709551616) / 18446744073709551616 = q3 at *
  generalize x * ((2 - m * x % 18446744073709551616) % 18446744073709551616) % 18446744073709551616 = t3 at *
  generalize (2 - m * x % 18446744073709551616) / 18446744073709551616 = q2 at *
  generalize (2 - m * x % 18446744073709551616) % 18446744073709551616 = t2 at *
  generalize m * x / 18446744073709551616 = q1 at *
  generalize m * x % 18446744073709551616 = t1 at *
  -- m x = 1 + D a; t2 = 2 - m x + W (q1 - q2); t3 = x t2 - W q3
  have h3 : t3 = x * t2 - 18446744073709551616 * q3 := by omega
  have h2 : t2 = 2 - m * x + 18446744073709551616 * (q1 - q2) := by omega
  have hk : m * t3 - 1 = -(D * D) * (a * a) + 18446744073709551616 * (m * x * (q1 - q2) - m * q3) := by
    rw [h3, h2]
    have hx : m * x = 1 + D * a := by omega
    rw [Int.mul_sub, ← Int.mul_assoc, Int.mul_add, hx, Int.mul_left_comm m, Int.mul_left_comm (1 + D * a) 18446744073709551616]
    have : (1 + D * a) * (2 - (1 + D * a)) = 1 - D * D * (a * a) := by
      rw [show (2 : Int) - (1 + D * a) = 1 - D * a by omega, Int.mul_sub, Int.mul_one, Int.add_mul, Int.one_mul]
      have : D * a * (D * a) = D * D * (a * a) := by rw [Int.mul_assoc, Int.mul_left_comm a, Int.mul_assoc]
      omega
    rw [this, Int.neg_mul, Int.mul_sub]
    omega
  rw [hk]
  exact Int.dvd_add (Int.dvd_trans (Int.dvd_neg.2 hE) (Int.dvd_mul_right _ _)) (Int.dvd_trans hW (Int.dvd_mul_right _ _))

/-- How right it is behind k steps. -/
def dv (k : Nat) : Int := match k with | 0 => 8 | 1 => 64 | 2 => 4096 | 3 => 16777216 | 4 => 281474976710656 | _ => 18446744073709551616
theorem dv_start {m : Int} (h : m % 2 = 1) : dv 0 ∣ m * m - 1 := by
  show (8 : Int) ∣ m * m - 1
  obtain ⟨a, b, ha, hb⟩ : ∃ a b : Int, m = 8 * a + b ∧ (b = 1 ∨ b = 3 ∨ b = 5 ∨ b = 7) := ⟨m / 8, m % 8, by omega, by omega⟩
  have : m * m = 8 * (a * (8 * a) + 2 * (a * b)) + b * b := by
    rw [ha, Int.add_mul, Int.mul_add, Int.mul_add, Int.mul_assoc, Int.mul_assoc, Int.mul_comm b, Int.mul_assoc 8 a b]
    omega
  rw [this]
  rcases hb with rfl | rfl | rfl | rfl <;> omega
theorem dv_step {m x : Int} {k : Nat} (hk : k < 5) (h : dv k ∣ m * x - 1) :
    dv (k + 1) ∣ m * (x * ((2 - m * x % 18446744073709551616) % 18446744073709551616) % 18446744073709551616) - 1 := by
  refine newton h ?_ ?_
  · match k, hk with
    | 0, _ => decide
    | 1, _ => decide
    | 2, _ => decide
    | 3, _ => decide
    | 4, _ => decide
  · match k, hk with
    | 0, _ => decide
    | 1, _ => decide
    | 2, _ => decide
    | 3, _ => decide
    | 4, _ => decide

/-! ### modulo an odd number, 2^256 can be taken away -/
theorem top_two : top = 2 ^ 256 := by decide
theorem cop_top {M : Nat} (h : M % 2 = 1) : Nat.Coprime top M := by
  rw [top_two]
  apply Nat.Coprime.pow_left
  unfold Nat.Coprime
  rw [Nat.gcd_rec, h]; rfl
theorem cut_top {M A B : Nat} (hM : M % 2 = 1) (h : A * top % M = B * top % M) : A % M = B % M := by
  have hc : Nat.Coprime M top := (cop_top hM).symm
  have key : ∀ {a b : Nat}, a ≤ b → a * top % M = b * top % M → a % M = b % M := by
    intro a b hab h
    have h1 : M ∣ (b - a) * top := by
      rw [Nat.sub_mul]
      exact Nat.dvd_of_mod_eq_zero (Nat.sub_mod_eq_zero_of_mod_eq h.symm)
    have h2 : M ∣ b - a := Nat.Coprime.dvd_of_dvd_mul_right hc h1
    obtain ⟨c, hc2⟩ := h2
    rw [show b = a + M * c by omega, Nat.add_mul_mod_self_left]
  rcases Nat.le_total A B with hab | hab
  · exact key hab h
  · exact (key hab h.symm).symm

/-- What is left when the low half is 0: below 2^256 and the modulus. -/
theorem shr_sum {X M Z T o : Nat} (hX : X < top8) (hT : T < top) (hM0 : 0 < M) (hlow : Z % top = 0) (e : Z + o * top8 = X + T * M) :
    (Z / top + o * top) * top = X + T * M ∧ Z / top + o * top < top + M ∧ (X < M * top → Z / top + o * top < 2 * M) := by
  have hp := top_pos
  have hz : top * (Z / top) + Z % top = Z := Nat.div_add_mod _ _
  rw [top8_eq] at *
  have e2 : (Z / top + o * top) * top = X + T * M := by
    rw [Nat.add_mul, Nat.mul_assoc, Nat.mul_comm (Z / top)]; omega
  have hTM : T * M < top * M := Nat.mul_lt_mul_of_pos_right hT hM0
  refine ⟨e2, ?_, fun h => ?_⟩
  · apply Nat.lt_of_mul_lt_mul_right (a := top)
    rw [e2, Nat.add_mul, Nat.mul_comm M]; omega
  · apply Nat.lt_of_mul_lt_mul_right (a := top)
    rw [e2, Nat.mul_assoc 2, Nat.mul_comm M] at *
    omega
end Go.Proofs.Ytkfomfpeangcdaa
