/-
  limb.Of: the number of bytes.
-/
import Derived.Test.YtoikgkjkcampkaaRows
import Derived.Test.YtoikgkjkcampkaaMem
import Derived.WalkKit
import Derived.WalkSpells
import Derived.WalkLawsBesides
import Derived.Deep.LoopGhost
import Derived.Deep.RegionWith
import Derived.Deep.QuietTactic
import Derived.BigQuiet
import Derived.BigRegion
namespace Go.Proofs.Ytoikgkjkcampkaa
open Go.RowKit

/-- The number of the lowest i bytes, z 0 the lowest. -/
def lev (z : Nat → Nat) : Nat → Nat
  | 0 => 0
  | i + 1 => lev z i + z i * 256 ^ i
theorem lev_lt {z : Nat → Nat} (hz : ∀ j, z j < 256) : ∀ i, lev z i < 256 ^ i
  | 0 => by simp [lev]
  | i + 1 => by
    have h := lev_lt hz i
    have h2 : z i * 256 ^ i ≤ 255 * 256 ^ i := Nat.mul_le_mul_right _ (by have := hz i; omega)
    show lev z i + z i * 256 ^ i < _
    rw [Nat.pow_succ]
    omega

theorem dg_put (m q r L c : Nat) (hr : r < m) (hL : L < 256 ^ (m * q + r)) (hc : c < 256) (j : Nat) :
    dg (256 ^ m) (L + c * 256 ^ (m * q + r)) j = if j = q then dg (256 ^ m) L j + c * 256 ^ r else dg (256 ^ m) L j := by
  have hB : 0 < 256 ^ m := Nat.pow_pos (by omega)
  have hp : ∀ k, 0 < (256 ^ m) ^ k := fun k => Nat.pow_pos hB
  have e : 256 ^ (m * q + r) = (256 ^ m) ^ q * 256 ^ r := by rw [Nat.pow_add, Nat.pow_mul]
  have hrm : 256 ^ r * 256 ≤ 256 ^ m := by rw [← Nat.pow_succ]; exact Nat.pow_le_pow_right (by omega) hr
  rw [e] at hL ⊢
  have hLq : L / (256 ^ m) ^ q < 256 ^ r := by rw [Nat.div_lt_iff_lt_mul (hp q), Nat.mul_comm]; exact hL
  have hcr : c * 256 ^ r ≤ 255 * 256 ^ r := Nat.mul_le_mul_right _ (by omega)
  rw [show c * ((256 ^ m) ^ q * 256 ^ r) = (256 ^ m) ^ q * (c * 256 ^ r) by rw [Nat.mul_left_comm]]
  by_cases hj : j = q
  · subst hj
    rw [if_pos rfl]
    unfold dg
    rw [Nat.add_mul_div_left _ _ (hp j), Nat.mod_eq_of_lt (by omega), Nat.mod_eq_of_lt (by omega)]
  · rw [if_neg hj]
    by_cases hlt : j < q
    · rw [← dg_mod _ q j hlt, Nat.add_mul_mod_self_left, dg_mod _ q j hlt]
    · have hjq : q + 1 ≤ j := by omega
      have hle : (256 ^ m) ^ (q + 1) ≤ (256 ^ m) ^ j := Nat.pow_le_pow_right hB hjq
      rw [Nat.pow_succ] at hle
      have h1 : (256 ^ m) ^ q * (256 ^ r + c * 256 ^ r) ≤ (256 ^ m) ^ q * 256 ^ m := Nat.mul_le_mul_left _ (by omega)
      rw [Nat.mul_add] at h1
      unfold dg
      rw [Nat.div_eq_of_lt (show L < _ by omega), Nat.div_eq_of_lt (show L + (256 ^ m) ^ q * (c * 256 ^ r) < _ by omega)]

theorem w64_bytes : w64 = 256 ^ 8 := by decide
theorem w16_bytes : w16 = 256 ^ 2 := by decide

theorem two_256 (r : Nat) : 2 ^ (r * 8) = 256 ^ r := by rw [Nat.mul_comm, Nat.pow_mul]
theorem wd_put (L c k j : Nat) (hL : L < 256 ^ k) (hc : c < 256) : wd (L + c * 256 ^ k) j = if j = k / 8 then wd L j + (c * 256 ^ (k % 8) : Nat) else wd L j := by
  have h := dg_put 8 (k / 8) (k % 8) L c (Nat.mod_lt _ (by omega)) (by rw [Nat.div_add_mod]; exact hL) hc j
  rw [Nat.div_add_mod, ← w64_bytes] at h
  unfold wd
  rw [h]
  split
  · rw [Int.natCast_add]
  · rfl
theorem of_word (L c k : Nat) (hL : L < 256 ^ k) (hc : c < 256) : bits .or .u64 (wd L (k / 8)) (IntKind.u64.wrap ((c : Int) * 2 ^ (k % 8 * 8))) = wd (L + c * 256 ^ k) (k / 8) := by
  have hr : k % 8 < 8 := Nat.mod_lt _ (by omega)
  have hp : 256 ^ (k % 8) ≤ 256 ^ 7 := Nat.pow_le_pow_right (by omega) (by omega)
  have h7 : (256 : Nat) ^ 7 = 72057594037927936 := by decide
  have hcr : c * 256 ^ (k % 8) ≤ 255 * 256 ^ (k % 8) := Nat.mul_le_mul_right _ (by omega)
  have hq : dg w64 L (k / 8) < 256 ^ (k % 8) := by
    have e : 256 ^ k = w64 ^ (k / 8) * 256 ^ (k % 8) := by
      rw [w64_bytes, ← Nat.pow_mul, ← Nat.pow_add, Nat.div_add_mod]
    unfold dg
    refine Nat.lt_of_le_of_lt (Nat.mod_le _ _) ?_
    rw [Nat.div_lt_iff_lt_mul (Nat.pow_pos w64_pos), Nat.mul_comm, ← e]
    exact hL
  have ec : (c : Int) * 2 ^ (k % 8 * 8) = ((c * 256 ^ (k % 8) : Nat) : Int) := by
    rw [← two_256, Int.natCast_mul, Int.natCast_pow]
    rfl
  rw [wd_put L c k _ hL hc, if_pos rfl, ec, IntKind.wrap_u64]
  unfold wd
  rw [show ((c * 256 ^ (k % 8) : Nat) : Int) % 18446744073709551616 = ((c * 256 ^ (k % 8) : Nat) : Int) by omega]
  rw [u64_or_nat _ _ (by omega) (by omega), Nat.or_comm, nat_join (8 * (k % 8)) _ _ (by rw [Nat.mul_comm 8, two_256]; exact Nat.mul_mod_left _ _) (by rw [Nat.mul_comm 8, two_256]; exact hq)]
  omega

theorem of_step (z : Nat → Nat) (k : Nat) (hz : ∀ j, z j < 256) (i : Nat) :
    (if i = k / 8 then Value.int .u64 (wd (lev z k + z k * 256 ^ k) (k / 8)) else Value.int .u64 (wd (lev z k) i)) = Value.int .u64 (wd (lev z (k + 1)) i) := by
  show _ = Value.int .u64 (wd (lev z k + z k * 256 ^ k) i)
  by_cases h : i = k / 8
  · rw [if_pos h, h]
  · rw [if_neg h, wd_put _ _ _ _ (lev_lt hz k) (hz k), if_neg h]
theorem wd_zero (i : Nat) : wd 0 i = 0 := by unfold wd dg; simp

end Go.Proofs.Ytoikgkjkcampkaa
