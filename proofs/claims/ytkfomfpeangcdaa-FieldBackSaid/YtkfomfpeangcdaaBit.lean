/-
  limb.Bit, clapperref01.Bit: a bit of a number.
-/
import Derived.Test.YtkfomfpeangcdaaParts
namespace Go.Proofs.Ytkfomfpeangcdaa
open Go.RowKit

/-- Bit i of X, for i from 0 to 255. -/
def bit (X n : Nat) : Bool := X / 2 ^ n % 2 == 1

theorem w64_two : w64 = 2 ^ 64 := by decide
theorem w16_two : w16 = 2 ^ 16 := by decide
theorem bit_dg (a n r m : Nat) (hr : r < m) : a / (2 ^ m) ^ n % 2 ^ m / 2 ^ r % 2 = a / 2 ^ (m * n + r) % 2 := by
  have h := dg_mod (B := 2) (a / (2 ^ m) ^ n) m r hr
  unfold dg at h
  rw [h, ← Nat.pow_mul, Nat.div_div_eq_div_mul, ← Nat.pow_add]
theorem bit_word (X n : Nat) : (bits BinOp.and IntKind.u64 (wd X (n / 64) / 2 ^ (n % 64)) 1 == 1) = bit X n := by
  have e : wd X (n / 64) / 2 ^ (n % 64) = ((dg w64 X (n / 64) / 2 ^ (n % 64) : Nat) : Int) := by
    unfold wd
    rw [Int.natCast_ediv]
    simp
  have hlt : dg w64 X (n / 64) / 2 ^ (n % 64) < 18446744073709551616 := Nat.lt_of_le_of_lt (Nat.div_le_self _ _) (dg_lt w64_pos X _)
  rw [e, show (1 : Int) = ((1 : Nat) : Int) from rfl, u64_and_nat _ _ hlt (by omega), Nat.and_one_is_mod]
  have h := bit_dg X (n / 64) (n % 64) 64 (Nat.mod_lt _ (by omega))
  rw [Nat.div_add_mod] at h
  unfold bit dg
  rw [w64_two, h]
  rw [Bool.eq_iff_iff]
  simp only [beq_iff_eq]
  omega
/-- What is left of a part behind k halvings. -/
def ph (X q k : Nat) : Int := ((dg w16 X q / 2 ^ k : Nat) : Int)
theorem ph_lo (X q k : Nat) : 0 ≤ ph X q k := Int.natCast_nonneg _
theorem ph_lt (X q k : Nat) : ph X q k < 65536 := by
  have h : dg w16 X q / 2 ^ k < 65536 := Nat.lt_of_le_of_lt (Nat.div_le_self _ _) (dg_lt w16_pos X q)
  unfold ph; omega
theorem ph_zero (X q : Nat) : ph X q 0 = pt X q := by simp [ph, pt]
theorem ph_succ (X q k : Nat) : ph X q (k + 1) = ph X q k / 2 := by
  unfold ph
  rw [Nat.pow_succ, ← Nat.div_div_eq_div_mul, Int.natCast_ediv]
  rfl
theorem ph_bit (X n : Nat) : (ph X (n / 16) (n % 16) % 2 == 1) = bit X n := by
  have h := bit_dg X (n / 16) (n % 16) 16 (Nat.mod_lt _ (by omega))
  rw [Nat.div_add_mod] at h
  unfold bit ph dg
  rw [w16_two, ← h]
  rw [Bool.eq_iff_iff]
  simp only [beq_iff_eq]
  omega

set_option maxHeartbeats 400000 in
theorem bit_out (X : Nat) (i : Int) (h : i < 0 ∨ 256 ≤ i) (w : World) :
    Calls Try.prog 27 #[.agg #[.int .u64 (wd (X) 0), .int .u64 (wd (X) 1), .int .u64 (wd (X) 2), .int .u64 (wd (X) 3)], .int .i64 i] w fun e w' => e = .returned (.bool false) ∧ Below w.heap.size w w' := by
  rcases h with h | h
  · go_enter Try.func27, Try.ntmps27
    go_wp2
    go_ret
    exact ⟨rfl, (Below.refl _ _).alloc (Nat.le_refl _) _⟩
  · have h' : ¬ i < 0 := by omega
    go_enter Try.func27, Try.ntmps27
    go_wp2
    go_ret
    exact ⟨rfl, (Below.refl _ _).alloc (Nat.le_refl _) _⟩

set_option maxHeartbeats 400000 in
theorem bit_in (X n : Nat) (hn : n < 256) (w : World) :
    Calls Try.prog 27 #[.agg #[.int .u64 (wd (X) 0), .int .u64 (wd (X) 1), .int .u64 (wd (X) 2), .int .u64 (wd (X) 3)], .int .i64 (n : Int)] w fun e w' => e = .returned (.bool (bit X n)) ∧ Below w.heap.size w w' := by
  have hq : n / 64 < 4 := by omega
  have h0 : ¬ (n : Int) < 0 := by omega
  have h1 : ¬ (256 : Int) ≤ (n : Int) := by omega
  have hR : (w.alloc (.cells #[.int .u64 (wd (X) 0), .int .u64 (wd (X) 1), .int .u64 (wd (X) 2), .int .u64 (wd (X) 3)] 24)).rowIs w.heap.size 24 4 (fun j => .int .u64 (wd X j)) := row_new (n := 4) (by simp) rfl (arr4 fun j => .int .u64 (wd X j))
  have c1 := hR.cell hq
  have l1 := wd_lo X (n / 64)
  have u1 := wd_le X (n / 64)
  clear hR
  go_enter Try.func27, Try.ntmps27
  go_wp2
  go_ret
  rw [← bit_word]
  exact ⟨rfl, (Below.refl _ _).alloc (Nat.le_refl _) _⟩

set_option maxHeartbeats 400000 in
theorem rbit_out (X : Nat) (i : Int) (h : i < 0 ∨ 256 ≤ i) (w : World) :
    Calls Try.prog 40 #[.agg #[.int .u64 (wd (X) 0), .int .u64 (wd (X) 1), .int .u64 (wd (X) 2), .int .u64 (wd (X) 3)], .int .i64 i] w fun e w' => e = .returned (.bool false) ∧ Below w.heap.size w w' := by
  rcases h with h | h
  · go_enter Try.func40, Try.ntmps40
    go_wp2
    go_ret
    exact ⟨rfl, (Below.refl _ _).alloc (Nat.le_refl _) _⟩
  · have h' : ¬ i < 0 := by omega
    have h'' : 255 < i := by omega
    go_enter Try.func40, Try.ntmps40
    go_wp2
    go_ret
    exact ⟨rfl, (Below.refl _ _).alloc (Nat.le_refl _) _⟩

set_option maxHeartbeats 1000000 in
theorem rbit_in (X n : Nat) (hn : n < 256) (w : World) :
    Calls Try.prog 40 #[.agg #[.int .u64 (wd (X) 0), .int .u64 (wd (X) 1), .int .u64 (wd (X) 2), .int .u64 (wd (X) 3)], .int .i64 (n : Int)] w fun e w' => e = .returned (.bool (bit X n)) ∧ Below w.heap.size w w' := by
  have hq : n / 16 < 16 := by omega
  have h0 : ¬ (n : Int) < 0 := by omega
  have h1 : ¬ (255 : Int) < (n : Int) := by omega
  have hB0 : Below w.heap.size w (w.alloc (.cells #[.int .u64 (wd (X) 0), .int .u64 (wd (X) 1), .int .u64 (wd (X) 2), .int .u64 (wd (X) 3)] 24)) := (Below.refl _ _).alloc (Nat.le_refl _) _
  go_enter Try.func40, Try.ntmps40
  go_wp2_with fail
  refine (parts_calls X _).mono ?_
  rintro e w1 ⟨g1, cap1, rfl, hg1, hp1, hb1⟩
  have hB1 := hB0.trans (hb1.mono (by simp))
  have c1 := hp1.cell hq
  simp only [ptv] at c1
  clear hB0 hb1 hg1 hp1
  go_wp2
  go_loop [5, 6] (fun p i => ∃ k : Nat, k ≤ n % 16 ∧ i = .int .i64 k ∧ p = .int .i64 (ph X (n / 16) k)) (fun _ i => n % 16 - (intOf i).toNat)
  case atStart => exact ⟨0, Nat.zero_le _, rfl, by rw [ph_zero]⟩
  case round =>
    obtain ⟨k, hk, rfl, rfl⟩ := hrel
    by_cases hlt : k < n % 16
    · have l1 := ph_lo X (n / 16) k
      have u1 : ph X (n / 16) k ≤ 65535 := by have := ph_lt X (n / 16) k; omega
      go_wp2
      go_round
      case rel => exact ⟨k + 1, by omega, by go_num, by rw [ph_succ]⟩
      case measure => simp [intOf]; omega
    · have hk' : k = n % 16 := by omega
      have HK := veil hk'
      clear hk'
      go_wp2
      have l1 := ph_lo X (n / 16) k
      go_ret
      rw [← ph_bit, ← HK.out]
      exact ⟨rfl, hB1⟩
end Go.Proofs.Ytkfomfpeangcdaa
