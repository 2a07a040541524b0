/-
  clapperref08.Of: the number of bytes.
-/
import Derived.Test.YtoikgkjkcampkaaT1
namespace Go.Proofs.Ytoikgkjkcampkaa
open Go.RowKit

theorem valB_le {bs : List Nat} (h : Byt bs) (h0 : bs.getD 0 0 ≤ 127) (hl : bs.length = 8) {i : Nat} (hi : i < 8) : valB (bs.take (i + 1)) ≤ 9223372036854775807 := by
  have h1 := valB_lt h h0 i (by omega)
  have h2 : 128 * 256 ^ i ≤ 128 * 256 ^ 7 := Nat.mul_le_mul_left _ (Nat.pow_le_pow_right (by decide) (by omega))
  have : (128 : Nat) * 256 ^ 7 = 9223372036854775808 := by decide
  omega

end Go.Proofs.Ytoikgkjkcampkaa
