/-
  tlv.Number, tlv.Of: the landed package's own; what the laws ask of it.
-/
import Derived.Test.YtoikgkjkcampkaaTH
namespace Go.Proofs.Ytoikgkjkcampkaa
open Go.RowKit

theorem or_u64 {V Y : Nat} (hV : V < 72057594037927936) (hY : Y < 256) : bits .or .u64 (IntKind.u64.wrap ((V : Int) * 256)) (Y : Int) = ((256 * V + Y : Nat) : Int) := by
  rw [IntKind.wrap_u64, show (V : Int) * 256 % 18446744073709551616 = ((V * 256 : Nat) : Int) by omega, u64_or_nat _ _ (by omega) (by omega), nat_join 8 _ _ (by omega) (by omega), Nat.mul_comm]
theorem valB_lt8 {bs : List Nat} (h : Byt bs) : ∀ i, i ≤ bs.length → valB (bs.take i) < 256 ^ i
  | 0, _ => by simp [valB]
  | i + 1, hi => by
    have h1 := valB_lt8 h i (by omega)
    have h2 := h.getD i
    rw [valB_take (by omega), Nat.pow_succ]
    omega
theorem valB_ge {bs : List Nat} : ∀ i, i < bs.length → bs.getD 0 0 * 256 ^ i ≤ valB (bs.take (i + 1))
  | 0, hi => by
    rw [valB_take hi]
    omega
  | i + 1, hi => by
    have h1 := valB_ge (bs := bs) i (by omega)
    rw [valB_take hi, Nat.pow_succ, ← Nat.mul_assoc]
    omega
theorem ofB_big {bs : List Nat} (h : Byt bs) (hl : 8 = bs.length) (hv : (9223372036854775807 : Int) < (valB bs : Nat)) : ofB bs = -1 := by
  unfold ofB
  rw [if_neg]
  rintro ⟨_, h0⟩
  have h1 := valB_lt h h0 7 (by omega)
  rw [List.take_of_length_le (by omega)] at h1
  have : (128 : Nat) * 256 ^ 7 = 9223372036854775808 := by decide
  omega
theorem ofB_small {bs : List Nat} (hl : 8 = bs.length) (hv : ¬ (9223372036854775807 : Int) < (valB bs : Nat)) : ofB bs = (valB bs : Nat) := by
  unfold ofB
  rw [if_pos]
  refine ⟨hl.symm, ?_⟩
  have h1 := valB_ge (bs := bs) 7 (by omega)
  rw [List.take_of_length_le (by omega)] at h1
  have : (256 : Nat) ^ 7 = 72057594037927936 := by decide
  omega
/-- Byte j of the eight, where U is the number. -/
def nbv (U j : Nat) : Value := .int .u8 ((U / 256 ^ (7 - j) % 256 : Nat) : Int)
theorem num_step {U k j : Nat} (hk : k < 8) (hj : j = 7 - k) : ∀ i, i < 8 → (if i = j then nbv U j else if 8 ≤ i + k then nbv U i else .int .u8 0) = (if 8 ≤ i + (k + 1) then nbv U i else .int .u8 0) := by
  intro i hi
  by_cases h : i = j
  · rw [if_pos h, if_pos (by omega), h]
  · rw [if_neg h]
    by_cases h2 : 8 ≤ i + k
    · rw [if_pos h2, if_pos (by omega)]
    · rw [if_neg h2, if_neg (by omega)]
theorem num_bs {w : World} {g : Nat} {n : Int} {U : Nat} (hU : U = (n % 18446744073709551616).toNat) (h : w.rowIs g 5 8 (nbv U)) : Bs w (some ⟨g, 0, none⟩) (numB n) := by
  refine ⟨numB_byt n, .inr ⟨g, 0, rfl, h.lt, fun j hj => ?_⟩⟩
  rw [numB_length] at hj
  rw [Nat.zero_add, h.cell hj, hU]
  unfold nbv
  rw [List.getD_eq_getElem?_getD]
  simp [numB, hj]
theorem row_fill {w : World} {z : Value} {n b t : Nat} (hb : b = w.heap.size) : (w.alloc (.cells (madeCells #[z] n) t)).rowIs b t n (fun _ => z) := by
  subst hb
  exact World.rowIs_made w z n t

end Go.Proofs.Ytoikgkjkcampkaa
