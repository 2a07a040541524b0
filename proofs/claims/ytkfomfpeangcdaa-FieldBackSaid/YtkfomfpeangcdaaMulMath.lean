/-
  The school's way to a product, digit by digit, in any base. No Go in sight.
-/
import Derived.Test.YtkfomfpeangcdaaMath
namespace Go.Proofs.Ytkfomfpeangcdaa

/-- What i rows come to. -/
def PP (B X Y i : Nat) : Nat := X % B ^ i * Y
/-- The lowest i + j digits of it, and j columns of row i. -/
def TT (B X Y i j : Nat) : Nat := PP B X Y i % B ^ (i + j) + dg B X i * (B ^ i * (Y % B ^ j))
/-- What is carried on. -/
def CC (B X Y i j : Nat) : Nat := TT B X Y i j / B ^ (i + j)
/-- Digit m, behind i rows and j columns. -/
def UU (B X Y i j m : Nat) : Nat := if m < i + j then dg B (TT B X Y i j) m else dg B (PP B X Y i) m

theorem UU_start {B : Nat} (X Y i m : Nat) : UU B X Y i 0 m = dg B (PP B X Y i) m := by
  unfold UU
  split
  · rename_i h
    unfold TT
    simp only [Nat.pow_zero, Nat.mod_one, Nat.mul_zero, Nat.add_zero] at *
    exact dg_mod _ i m h
  · rfl
theorem CC_start {B : Nat} (hB : 0 < B) (X Y i : Nat) : CC B X Y i 0 = 0 := by
  unfold CC TT
  simp only [Nat.pow_zero, Nat.mod_one, Nat.mul_zero, Nat.add_zero]
  exact Nat.div_eq_of_lt (Nat.mod_lt _ (Nat.pow_pos hB))
theorem TT_lt {B : Nat} (hB : 0 < B) (X Y i j : Nat) : TT B X Y i j < B ^ (i + j) * B := by
  have hQ : 0 < B ^ (i + j) := Nat.pow_pos hB
  have h1 := Nat.mod_lt (PP B X Y i) hQ
  have h2 : B ^ i * (Y % B ^ j) ≤ B ^ (i + j) := by
    rw [Nat.pow_add]
    exact Nat.mul_le_mul_left _ (Nat.le_of_lt (Nat.mod_lt _ (Nat.pow_pos hB)))
  have h3 : dg B X i * (B ^ i * (Y % B ^ j)) ≤ (B - 1) * B ^ (i + j) := Nat.mul_le_mul (by have := dg_lt hB X i; omega) h2
  unfold TT
  have h4 : B ^ (i + j) * B = B ^ (i + j) + (B - 1) * B ^ (i + j) := by
    obtain ⟨b, rfl⟩ : ∃ b, B = b + 1 := ⟨B - 1, by omega⟩
    rw [Nat.add_sub_cancel, Nat.mul_add, Nat.mul_one, Nat.mul_comm]
    omega
  omega
theorem CC_lt {B : Nat} (hB : 0 < B) (X Y i j : Nat) : CC B X Y i j < B := by
  unfold CC
  rw [Nat.div_lt_iff_lt_mul (Nat.pow_pos hB), Nat.mul_comm]
  exact TT_lt hB X Y i j
theorem UU_lt {B : Nat} (hB : 0 < B) (X Y i j m : Nat) : UU B X Y i j m < B := by
  unfold UU
  split <;> exact dg_lt hB _ _

theorem TT_step {B : Nat} (X Y i j : Nat) :
    TT B X Y i (j + 1) = TT B X Y i j % B ^ (i + j) + B ^ (i + j) * (dg B X i * dg B Y j + dg B (PP B X Y i) (i + j) + CC B X Y i j) := by
  have h1 : TT B X Y i (j + 1) = TT B X Y i j + B ^ (i + j) * (dg B (PP B X Y i) (i + j) + dg B X i * dg B Y j) := by
    unfold TT
    rw [show i + (j + 1) = (i + j) + 1 by omega, mod_succ B (PP B X Y i) (i + j), mod_succ B Y j, Nat.mul_add (B ^ i), ← Nat.mul_assoc (B ^ i), ← Nat.pow_add, Nat.mul_add (dg B X i), Nat.mul_add (B ^ (i + j)),
      show dg B X i * (B ^ (i + j) * dg B Y j) = B ^ (i + j) * (dg B X i * dg B Y j) by rw [Nat.mul_left_comm]]
    omega
  have h2 : B ^ (i + j) * CC B X Y i j + TT B X Y i j % B ^ (i + j) = TT B X Y i j := Nat.div_add_mod _ _
  rw [h1, Nat.mul_add, Nat.mul_add, Nat.mul_add]
  omega
theorem UU_step {B : Nat} (hB : 0 < B) (X Y i j : Nat) : UU B X Y i (j + 1) (i + j) = (dg B X i * dg B Y j + UU B X Y i j (i + j) + CC B X Y i j) % B := by
  have hu : UU B X Y i j (i + j) = dg B (PP B X Y i) (i + j) := by unfold UU; rw [if_neg (by omega)]
  rw [hu]
  unfold UU
  rw [if_pos (by omega), dg, TT_step, Nat.add_mul_div_left _ _ (Nat.pow_pos hB), Nat.div_eq_of_lt (Nat.mod_lt _ (Nat.pow_pos hB)), Nat.zero_add]
theorem CC_step {B : Nat} (hB : 0 < B) (X Y i j : Nat) : CC B X Y i (j + 1) = (dg B X i * dg B Y j + UU B X Y i j (i + j) + CC B X Y i j) / B := by
  have hu : UU B X Y i j (i + j) = dg B (PP B X Y i) (i + j) := by unfold UU; rw [if_neg (by omega)]
  rw [hu]
  show TT B X Y i (j + 1) / B ^ (i + (j + 1)) = _
  rw [show i + (j + 1) = (i + j) + 1 by omega, Nat.pow_succ, ← Nat.div_div_eq_div_mul, TT_step, Nat.add_mul_div_left _ _ (Nat.pow_pos hB), Nat.div_eq_of_lt (Nat.mod_lt _ (Nat.pow_pos hB)), Nat.zero_add]
theorem UU_other {B : Nat} (X Y i j m : Nat) (hm : m ≠ i + j) : UU B X Y i (j + 1) m = UU B X Y i j m := by
  unfold UU
  by_cases h : m < i + j
  · rw [if_pos (by omega), if_pos h, ← dg_mod _ (i + j) m h, TT_step, Nat.add_mul_mod_self_left, Nat.mod_mod, dg_mod _ (i + j) m h]
  · rw [if_neg (by omega), if_neg h]

theorem PP_lt {B : Nat} (hB : 0 < B) (X Y i n : Nat) (hY : Y < B ^ n) : PP B X Y i < B ^ (i + n) := by
  have h1 : X % B ^ i < B ^ i := Nat.mod_lt _ (Nat.pow_pos hB)
  unfold PP
  rw [Nat.pow_add]
  exact Nat.mul_lt_mul_of_lt_of_le h1 (Nat.le_of_lt hY) (by omega)
theorem PP_step {B : Nat} (hB : 0 < B) (X Y i n : Nat) (hY : Y < B ^ n) : PP B X Y (i + 1) = TT B X Y i n := by
  unfold TT
  rw [Nat.mod_eq_of_lt (PP_lt hB X Y i n hY), Nat.mod_eq_of_lt hY]
  unfold PP
  rw [mod_succ, Nat.add_mul, Nat.mul_comm (B ^ i) (dg B X i), Nat.mul_assoc]
/-- The row's last digit is what was carried. -/
theorem PP_row {B : Nat} (hB : 0 < B) (X Y i n m : Nat) (hY : Y < B ^ n) : dg B (PP B X Y (i + 1)) m = if m = i + n then CC B X Y i n else UU B X Y i n m := by
  rw [PP_step hB X Y i n hY]
  by_cases h : m = i + n
  · subst h
    rw [if_pos rfl]
    show CC B X Y i n % B = _
    exact Nat.mod_eq_of_lt (CC_lt hB X Y i n)
  · rw [if_neg h]
    unfold UU
    by_cases h2 : m < i + n
    · rw [if_pos h2]
    · rw [if_neg h2]
      have hle : B ^ (i + n) * B ≤ B ^ m := by rw [← Nat.pow_succ]; exact Nat.pow_le_pow_right hB (by omega)
      have h3 := TT_lt hB X Y i n
      have h4 := PP_lt hB X Y i n hY
      have h5 : B ^ (i + n) ≤ B ^ (i + n) * B := Nat.le_mul_of_pos_right _ hB
      unfold dg
      rw [Nat.div_eq_of_lt (by omega), Nat.div_eq_of_lt (by omega)]
theorem PP_zero (B X Y : Nat) : PP B X Y 0 = 0 := by simp [PP, Nat.mod_one]
theorem PP_end {B : Nat} (X Y n : Nat) (hX : X < B ^ n) : PP B X Y n = X * Y := by unfold PP; rw [Nat.mod_eq_of_lt hX]
theorem dg_zero (B i : Nat) : dg B 0 i = 0 := by simp [dg]
end Go.Proofs.Ytkfomfpeangcdaa
