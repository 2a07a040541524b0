/-
  Words of 32 bits: turned right. No Go in sight.
-/
import Derived.WalkKit
namespace Go.Proofs.YtmgogcoafhompaaDoor

/-- x, a word of 32 bits, turned right by n. -/
def rot (x n : Nat) : Nat := x / 2 ^ n + 2 ^ (32 - n) * (x % 2 ^ n)
theorem rot_zero {x : Nat} : rot x 0 = x := by unfold rot; rw [Nat.pow_zero, Nat.div_one, Nat.mod_one, Nat.mul_zero, Nat.add_zero]
theorem rot_step {x n : Nat} (hn : n < 32) : rot x n / 2 + 2147483648 * (rot x n % 2) = rot x (n + 1) := by
  obtain ⟨m, hm⟩ : ∃ m, 32 - n = m + 1 := ⟨31 - n, by omega⟩
  have hm2 : 32 - (n + 1) = m := by omega
  have h31 : 2 ^ m * 2 ^ n = 2147483648 := by rw [← Nat.pow_add, show m + n = 31 by omega]
  unfold rot
  rw [hm, hm2, Nat.pow_succ 2 m, Nat.pow_succ 2 n, ← Nat.div_div_eq_div_mul, Nat.mod_mul, Nat.mul_add, ← Nat.mul_assoc (2 ^ m), h31, Nat.mul_comm (2 ^ m) 2, Nat.mul_assoc]
  generalize x / 2 ^ n = q
  generalize 2 ^ m * (x % 2 ^ n) = p
  omega
theorem rot_lt {x n : Nat} (hn : n ≤ 32) (hx : x < 2 ^ 32) : rot x n < 2 ^ 32 := by
  have hp : 0 < 2 ^ n := Nat.pow_pos (by omega)
  have e : 2 ^ 32 = 2 ^ (32 - n) * 2 ^ n := by rw [← Nat.pow_add]; congr 1; omega
  have hq : x / 2 ^ n < 2 ^ (32 - n) := by rw [Nat.div_lt_iff_lt_mul hp, ← e]; exact hx
  have hr := Nat.mod_lt x hp
  unfold rot
  rw [e]
  have : 2 ^ (32 - n) * (x % 2 ^ n + 1) ≤ 2 ^ (32 - n) * 2 ^ n := Nat.mul_le_mul_left _ hr
  rw [Nat.mul_add] at this
  omega
end Go.Proofs.YtmgogcoafhompaaDoor
