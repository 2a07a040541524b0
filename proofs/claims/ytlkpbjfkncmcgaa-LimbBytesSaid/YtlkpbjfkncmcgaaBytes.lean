/-
  limb.Bytes: the bytes of a number.
-/
import Derived.Test.YtlkpbjfkncmcgaaOf
namespace Go.Proofs.Ytlkpbjfkncmcgaa
open Go.RowKit

/-- Byte i of X. -/
def byv (X i : Nat) : Int := (dg 256 X i : Nat)
theorem byv_lo (X i : Nat) : 0 ≤ byv X i := Int.natCast_nonneg _
theorem byv_le (X i : Nat) : byv X i ≤ 255 := by
  have := dg_lt (B := 256) (by omega) X i
  unfold byv; omega
theorem dg_byte (X m q r : Nat) (hr : r < m) : dg (256 ^ m) X q / 256 ^ r % 256 = dg 256 X (m * q + r) := by
  show dg 256 (X / (256 ^ m) ^ q % 256 ^ m) r = _
  rw [dg_mod _ m r hr, dg, dg, ← Nat.pow_mul, Nat.div_div_eq_div_mul, ← Nat.pow_add]
theorem byte_word (X k : Nat) : wd X (k / 8) / 2 ^ (k % 8 * 8) % 256 = byv X k := by
  have e : wd X (k / 8) / 2 ^ (k % 8 * 8) = ((dg w64 X (k / 8) / 256 ^ (k % 8) : Nat) : Int) := by
    unfold wd
    rw [← two_256, Int.natCast_ediv]
    simp
  rw [e]
  have h := dg_byte X 8 (k / 8) (k % 8) (Nat.mod_lt _ (by omega))
  rw [Nat.div_add_mod, ← w64_bytes] at h
  unfold byv
  omega
theorem bytes_step {X k j : Nat} (hk : k < 32) (hj : j = 31 - k) : ∀ i, i < 32 → (if i = j then Value.int .u8 (byv X k) else Value.int .u8 (if 32 ≤ i + k then byv X (31 - i) else 0)) = Value.int .u8 (if 32 ≤ i + (k + 1) then byv X (31 - i) else 0) := by
  intro i hi
  by_cases h : i = j
  · rw [if_pos h, if_pos (by omega), show 31 - i = k by omega]
  · rw [if_neg h]
    by_cases h2 : 32 ≤ i + k
    · rw [if_pos h2, if_pos (by omega)]
    · rw [if_neg h2, if_neg (by omega)]
theorem infoByte : (Try.prog.info? 5).map (fun i => (i.zero, i.size, i.bytes)) = some (some (.int .u8 0), 1, 1) := by kernel_rfl

theorem row_made {w : World} {z : Value} {n b t : Nat} (hb : b = w.heap.size) : (w.alloc (.cells (madeCells #[z] n) t)).rowIs b t n (fun _ => z) := by
  subst hb
  exact World.rowIs_made w z n t

set_option maxRecDepth 100000 in
set_option maxHeartbeats 1000000 in
theorem bytes_calls (X : Nat) (w : World) :
    Calls Try.prog 26 #[.agg #[.int .u64 (wd (X) 0), .int .u64 (wd (X) 1), .int .u64 (wd (X) 2), .int .u64 (wd (X) 3)]] w fun e w' => ∃ g, e = .returned (.slice (some ⟨g, 0, none⟩) 32 32) ∧ w.heap.size ≤ g ∧ w'.rowIs g 5 32 (fun j => .int .u8 (byv X (31 - j))) ∧ Below w.heap.size w w' := by
  obtain ⟨i0, hi, hz0, hz1, hz2⟩ := info_parts infoByte
  have hmk : ∀ W : World, (Instr.makeSlice 36 (.int .i64 32) (.int .i64 32)).run Try.prog W = .ok (.slice (some ⟨W.heap.size, 0, none⟩) 32 32) (W.alloc (.cells (madeCells #[.int .u8 0] 32) 5)) :=
    fun W => run_make_row 36 5 i0 (.int .u8 0) Try.underlying36 hi hz0 hz1 rfl .i64 .i64 32 (by rw [hz2]; omega) (by omega) W
  go_enter Try.func26, Try.ntmps26
  go_wp2
  go_loopw [6] (fun i wr => ∃ k : Nat, k ≤ 32 ∧ i = .int .i64 k ∧ wr.rowIs w.heap.size 24 4 (fun j => .int .u64 (wd X j)) ∧ wr.rowIs (w.heap.size + 1) 5 32 (fun j => .int .u8 (if 32 ≤ j + k then byv X (31 - j) else 0)) ∧ Below w.heap.size w wr)
    (fun i _ => 32 - (intOf i).toNat)
  case atStart => exact ⟨0, by omega, rfl, (row_new (n := 4) rfl rfl (arr4 fun j => .int .u64 (wd X j))).alloc _, (row_made (w := w.alloc (.cells #[.int .u64 (wd (X) 0), .int .u64 (wd (X) 1), .int .u64 (wd (X) 2), .int .u64 (wd (X) 3)] 24)) (z := .int .u8 0) (by simp)).congr (fun i hi => by rw [if_neg (by omega)]), ((Below.refl _ _).alloc (by simp) _).alloc (by simp) _⟩
  case round =>
    obtain ⟨k, hk, rfl, hR, hS, hbel⟩ := hrel
    by_cases hlt : k < 32
    · have c1 := hR.cell (i := k / 8) (by omega)
      obtain ⟨j, hj⟩ : ∃ j, j = 31 - k := ⟨_, rfl⟩
      have hji : (31 : Int) - (k : Int) = (j : Int) := by omega
      have hjn : (j : Int) < (32 : Int) := by omega
      have c2 := hS.cell (i := j) (by omega)
      have f2 := hS.frozen j
      have l1 := wd_lo X (k / 8)
      have u1 := wd_le X (k / 8)
      have HJ := veil hj
      clear hj
      go_wp2
      go_roundw
      case rel =>
        rw [byte_word]
        exact ⟨k + 1, by omega, by go_num, row_far hR (by omega) _, (hS.set j _).congr (bytes_step hlt HJ.out), below_set hbel (by omega) _⟩
      case measure => simp [intOf]; omega
    · obtain rfl : k = 32 := by omega
      go_wp2
      go_ret
      exact ⟨_, rfl, by omega, hS.congr (fun i hi => by rw [if_pos (by omega)]), hbel⟩
end Go.Proofs.Ytlkpbjfkncmcgaa
