/-
  limb.Bytes: the bytes of a number.
-/
import Derived.Test.YtoikgkjkcampkaaOf
namespace Go.Proofs.Ytoikgkjkcampkaa
open Go.RowKit

/-- Byte i of X. -/
def byv (X i : Nat) : Int := (dg 256 X i : Nat)
theorem byv_lo (X i : Nat) : 0 ≤ byv X i := Int.natCast_nonneg _
theorem byv_le (X i : Nat) : byv X i ≤ 255 := by
  have := dg_lt (B := 256) (by omega) X i
  unfold byv; omega
theorem dg_byte (X m q r : Nat) (hr : r < m) : dg (256 ^ m) X q / 256 ^ r % 256 = dg 256 X (m * q + r) := by
  show dg 256 (X / (256 ^ m) ^ q % 256 ^ m) r = _
  rw [dg_mod _ m r hr, dg, dg, ← Nat.pow_mul, Nat.div_div_eq_div_mul, ← Nat.pow_add]
theorem byte_word (X k : Nat) : wd X (k / 8) / 2 ^ (k % 8 * 8) % 256 = byv X k := by
  have e : wd X (k / 8) / 2 ^ (k % 8 * 8) = ((dg w64 X (k / 8) / 256 ^ (k % 8) : Nat) : Int) := by
    unfold wd
    rw [← two_256, Int.natCast_ediv]
    simp
  rw [e]
  have h := dg_byte X 8 (k / 8) (k % 8) (Nat.mod_lt _ (by omega))
  rw [Nat.div_add_mod, ← w64_bytes] at h
  unfold byv
  omega
theorem bytes_step {X k j : Nat} (hk : k < 32) (hj : j = 31 - k) : ∀ i, i < 32 → (if i = j then Value.int .u8 (byv X k) else Value.int .u8 (if 32 ≤ i + k then byv X (31 - i) else 0)) = Value.int .u8 (if 32 ≤ i + (k + 1) then byv X (31 - i) else 0) := by
  intro i hi
  by_cases h : i = j
  · rw [if_pos h, if_pos (by omega), show 31 - i = k by omega]
  · rw [if_neg h]
    by_cases h2 : 32 ≤ i + k
    · rw [if_pos h2, if_pos (by omega)]
    · rw [if_neg h2, if_neg (by omega)]
theorem infoByte : (Try.prog.info? 5).map (fun i => (i.zero, i.size, i.bytes)) = some (some (.int .u8 0), 1, 1) := by kernel_rfl

theorem row_filled {w : World} {z : Value} {n b t : Nat} (hb : b = w.heap.size) : (w.alloc (.cells (madeCells #[z] n) t)).rowIs b t n (fun _ => z) := by
  subst hb
  exact World.rowIs_made w z n t

end Go.Proofs.Ytoikgkjkcampkaa
