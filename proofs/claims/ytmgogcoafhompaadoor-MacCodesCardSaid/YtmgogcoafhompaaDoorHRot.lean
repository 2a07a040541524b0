/-
  sha's small functions: words turned, the four sums of turned words, Ch and Maj.
-/
import Derived.Test.YtmgogcoafhompaaDoorSBits
import Derived.Test.YtmgogcoafhompaaDoorSWords
import Derived.Test.YtmgogcoafhompaaDoorRows
import Derived.WalkKit
import Derived.WalkSpells
import Derived.WalkLawsBesides
import Derived.Deep.QuietTactic
import Derived.BigQuiet
namespace Go.Proofs.YtmgogcoafhompaaDoor
open Go.RowKit

theorem neg_and : ∀ n : Fin 32, n.1 ≠ 0 → bits .and .u64 (IntKind.u64.wrap (-(n.1 : Int))) 31 = 32 - (n.1 : Int) := by decide
theorem rot_bits {x n : Nat} (hx : x < 2 ^ 32) (hn : n < 32) : bits .or .u32 ((x : Int) * 2 ^ (32 - n) % 4294967296) ((x : Int) / 2 ^ (32 - (32 - n))) = ((rot x n : Nat) : Int) := by
  have e : 32 - (32 - n) = n := by omega
  have e1 : (x : Int) * 2 ^ (32 - n) % 4294967296 = ((x * 2 ^ (32 - n) % 2 ^ 32 : Nat) : Int) := by
    rw [Int.natCast_emod, Int.natCast_mul, Int.natCast_pow]; rfl
  have e2 : (x : Int) / 2 ^ n = ((x / 2 ^ n : Nat) : Int) := by
    rw [Int.natCast_ediv, Int.natCast_pow]; rfl
  rw [e, e1, e2, or32 _ _ (Nat.mod_lt _ (by decide)) (shr_lt n hx), rot_or (by omega) hx, Nat.or_comm]
theorem ret_u32 {a : Int} {b : Nat} (h : a = (b : Int)) : Ending.returned (.int .u32 a) = .returned (.int .u32 (b : Nat)) := by rw [h]

set_option maxRecDepth 100000 in
set_option maxHeartbeats 1000000 in
theorem rotl_calls (x n : Nat) (hx : x < 2 ^ 32) (h0 : n ≠ 0) (hn : n < 32) (w : World) :
    Calls Tryd.prog 31 #[.int .u32 (x : Int), .int .i64 (-(n : Int))] w fun e w' => e = .returned (.int .u32 (rot x n : Nat)) ∧ w' = w := by
  have k1 := neg_and ⟨n, hn⟩ h0
  simp only at k1
  go_enter Tryd.func31, Tryd.ntmps31
  go_wp2
  go_ret
  exact ⟨ret_u32 (rot_bits hx hn), rfl⟩
set_option maxHeartbeats 1000000 in
theorem turned_calls (x n : Nat) (hx : x < 2 ^ 32) (h0 : n ≠ 0) (hn : n < 32) (w : World) :
    Calls Tryd.prog 30 #[.int .u32 (x : Int), .int .i64 (n : Int)] w fun e w' => e = .returned (.int .u32 (rot x n : Nat)) ∧ w' = w := by
  go_enter Tryd.func30, Tryd.ntmps30
  go_wp2_with (go_at_call 31; refine (rotl_calls x n hx h0 hn _).mono ?_; rintro e w' ⟨rfl, rfl⟩)
  go_ret
  exact ⟨rfl, rfl⟩

set_option maxHeartbeats 1000000 in
theorem bigOne_calls (x : Nat) (hx : x < 2 ^ 32) (w : World) :
    Calls Tryd.prog 24 #[.int .u32 (x : Int)] w fun e w' => e = .returned (.int .u32 (bs1 x : Nat)) ∧ w' = w := by
  have k1 := xor32 (rot x 6) (rot x 11) (rot_lt (by omega) hx) (rot_lt (by omega) hx)
  have k2 := xor32 (rot x 6 ^^^ rot x 11) (rot x 25) (Nat.xor_lt_two_pow (n := 32) (rot_lt (by omega) hx) (rot_lt (by omega) hx)) (rot_lt (by omega) hx)
  have H1 : Hid (∀ W, Calls Tryd.prog 30 #[.int .u32 (x : Int), .int .i64 6] W fun e w' => e = .returned (.int .u32 (rot x 6 : Nat)) ∧ w' = W) := veil32 (fun W => turned_calls x 6 hx (by decide) (by decide) W)
  have H2 : Hid (∀ W, Calls Tryd.prog 30 #[.int .u32 (x : Int), .int .i64 11] W fun e w' => e = .returned (.int .u32 (rot x 11 : Nat)) ∧ w' = W) := veil32 (fun W => turned_calls x 11 hx (by decide) (by decide) W)
  have H3 : Hid (∀ W, Calls Tryd.prog 30 #[.int .u32 (x : Int), .int .i64 25] W fun e w' => e = .returned (.int .u32 (rot x 25 : Nat)) ∧ w' = W) := veil32 (fun W => turned_calls x 25 hx (by decide) (by decide) W)
  go_enter Tryd.func24, Tryd.ntmps24
  go_wp2_with (go_at_call 30; (first | ((with_reducible refine (H1.out _).mono ?_); rintro e w' ⟨rfl, rfl⟩) | ((with_reducible refine (H2.out _).mono ?_); rintro e w' ⟨rfl, rfl⟩) | ((with_reducible refine (H3.out _).mono ?_); rintro e w' ⟨rfl, rfl⟩)))
  go_ret
  exact ⟨rfl, rfl⟩

set_option maxHeartbeats 1000000 in
theorem bigZero_calls (x : Nat) (hx : x < 2 ^ 32) (w : World) :
    Calls Tryd.prog 26 #[.int .u32 (x : Int)] w fun e w' => e = .returned (.int .u32 (bs0 x : Nat)) ∧ w' = w := by
  have k1 := xor32 (rot x 2) (rot x 13) (rot_lt (by omega) hx) (rot_lt (by omega) hx)
  have k2 := xor32 (rot x 2 ^^^ rot x 13) (rot x 22) (Nat.xor_lt_two_pow (n := 32) (rot_lt (by omega) hx) (rot_lt (by omega) hx)) (rot_lt (by omega) hx)
  have H1 : Hid (∀ W, Calls Tryd.prog 30 #[.int .u32 (x : Int), .int .i64 2] W fun e w' => e = .returned (.int .u32 (rot x 2 : Nat)) ∧ w' = W) := veil32 (fun W => turned_calls x 2 hx (by decide) (by decide) W)
  have H2 : Hid (∀ W, Calls Tryd.prog 30 #[.int .u32 (x : Int), .int .i64 13] W fun e w' => e = .returned (.int .u32 (rot x 13 : Nat)) ∧ w' = W) := veil32 (fun W => turned_calls x 13 hx (by decide) (by decide) W)
  have H3 : Hid (∀ W, Calls Tryd.prog 30 #[.int .u32 (x : Int), .int .i64 22] W fun e w' => e = .returned (.int .u32 (rot x 22 : Nat)) ∧ w' = W) := veil32 (fun W => turned_calls x 22 hx (by decide) (by decide) W)
  go_enter Tryd.func26, Tryd.ntmps26
  go_wp2_with (go_at_call 30; (first | ((with_reducible refine (H1.out _).mono ?_); rintro e w' ⟨rfl, rfl⟩) | ((with_reducible refine (H2.out _).mono ?_); rintro e w' ⟨rfl, rfl⟩) | ((with_reducible refine (H3.out _).mono ?_); rintro e w' ⟨rfl, rfl⟩)))
  go_ret
  exact ⟨rfl, rfl⟩

set_option maxHeartbeats 1000000 in
theorem smallOne_calls (x : Nat) (hx : x < 2 ^ 32) (w : World) :
    Calls Tryd.prog 28 #[.int .u32 (x : Int)] w fun e w' => e = .returned (.int .u32 (sg1 x : Nat)) ∧ w' = w := by
  obtain ⟨q, hq⟩ : ∃ q, q = x / 2 ^ 10 := ⟨_, rfl⟩
  have hql : q < 2 ^ 32 := by rw [hq]; exact shr_lt 10 hx
  have k3 : (x : Int) / 1024 = (q : Int) := by rw [hq, Int.natCast_ediv]; rfl
  have HQ := veil32 hq
  clear hq
  have k1 := xor32 (rot x 17) (rot x 19) (rot_lt (by omega) hx) (rot_lt (by omega) hx)
  have k2 := xor32 (rot x 17 ^^^ rot x 19) (q) (Nat.xor_lt_two_pow (n := 32) (rot_lt (by omega) hx) (rot_lt (by omega) hx)) (hql)
  have H1 : Hid (∀ W, Calls Tryd.prog 30 #[.int .u32 (x : Int), .int .i64 17] W fun e w' => e = .returned (.int .u32 (rot x 17 : Nat)) ∧ w' = W) := veil32 (fun W => turned_calls x 17 hx (by decide) (by decide) W)
  have H2 : Hid (∀ W, Calls Tryd.prog 30 #[.int .u32 (x : Int), .int .i64 19] W fun e w' => e = .returned (.int .u32 (rot x 19 : Nat)) ∧ w' = W) := veil32 (fun W => turned_calls x 19 hx (by decide) (by decide) W)
  go_enter Tryd.func28, Tryd.ntmps28
  go_wp2_with (go_at_call 30; (first | ((with_reducible refine (H1.out _).mono ?_); rintro e w' ⟨rfl, rfl⟩) | ((with_reducible refine (H2.out _).mono ?_); rintro e w' ⟨rfl, rfl⟩)))
  go_ret
  exact ⟨by unfold sg1; rw [← HQ.out]; rfl, rfl⟩

set_option maxHeartbeats 1000000 in
theorem smallZero_calls (x : Nat) (hx : x < 2 ^ 32) (w : World) :
    Calls Tryd.prog 29 #[.int .u32 (x : Int)] w fun e w' => e = .returned (.int .u32 (sg0 x : Nat)) ∧ w' = w := by
  obtain ⟨q, hq⟩ : ∃ q, q = x / 2 ^ 3 := ⟨_, rfl⟩
  have hql : q < 2 ^ 32 := by rw [hq]; exact shr_lt 3 hx
  have k3 : (x : Int) / 8 = (q : Int) := by rw [hq, Int.natCast_ediv]; rfl
  have HQ := veil32 hq
  clear hq
  have k1 := xor32 (rot x 7) (rot x 18) (rot_lt (by omega) hx) (rot_lt (by omega) hx)
  have k2 := xor32 (rot x 7 ^^^ rot x 18) (q) (Nat.xor_lt_two_pow (n := 32) (rot_lt (by omega) hx) (rot_lt (by omega) hx)) (hql)
  have H1 : Hid (∀ W, Calls Tryd.prog 30 #[.int .u32 (x : Int), .int .i64 7] W fun e w' => e = .returned (.int .u32 (rot x 7 : Nat)) ∧ w' = W) := veil32 (fun W => turned_calls x 7 hx (by decide) (by decide) W)
  have H2 : Hid (∀ W, Calls Tryd.prog 30 #[.int .u32 (x : Int), .int .i64 18] W fun e w' => e = .returned (.int .u32 (rot x 18 : Nat)) ∧ w' = W) := veil32 (fun W => turned_calls x 18 hx (by decide) (by decide) W)
  go_enter Tryd.func29, Tryd.ntmps29
  go_wp2_with (go_at_call 30; (first | ((with_reducible refine (H1.out _).mono ?_); rintro e w' ⟨rfl, rfl⟩) | ((with_reducible refine (H2.out _).mono ?_); rintro e w' ⟨rfl, rfl⟩)))
  go_ret
  exact ⟨by unfold sg0; rw [← HQ.out]; rfl, rfl⟩

theorem xor_all {x : Nat} (hx : x < 2 ^ 32) : bits .xor .u32 IntKind.u32.max (x : Int) = ((4294967295 - x : Nat) : Int) := by
  have h := xor32 4294967295 x (by decide) hx
  have e : 4294967295 ^^^ x = 4294967295 - x := by
    apply Nat.eq_of_testBit_eq
    intro i
    rw [Nat.testBit_xor, not_bit hx, show (4294967295 : Nat) = 2 ^ 32 - 1 from rfl, Nat.testBit_two_pow_sub_one]
    by_cases h : i < 32
    · simp [h]
    · have h32 : 2 ^ 32 ≤ 2 ^ i := Nat.pow_le_pow_right (by omega) (by omega)
      rw [Nat.testBit_lt_two_pow (Nat.lt_of_lt_of_le hx h32)]
      simp [h]
  rw [e] at h
  exact h
set_option maxHeartbeats 1000000 in
theorem choice_calls (x y z : Nat) (hx : x < 2 ^ 32) (hy : y < 2 ^ 32) (hz : z < 2 ^ 32) (w : World) :
    Calls Tryd.prog 25 #[.int .u32 (x : Int), .int .u32 (y : Int), .int .u32 (z : Int)] w fun e w' => e = .returned (.int .u32 (chN x y z : Nat)) ∧ w' = w := by
  have k1 := and32 x y hx hy
  have k2 := xor_all hx
  have k3 := and32 (4294967295 - x) z (by omega) hz
  have k4 := xor32 (x &&& y) ((4294967295 - x) &&& z) (Nat.lt_of_le_of_lt Nat.and_le_left hx) (Nat.lt_of_le_of_lt Nat.and_le_left (by omega))
  go_enter Tryd.func25, Tryd.ntmps25
  go_wp2
  go_ret
  exact ⟨rfl, rfl⟩
set_option maxHeartbeats 1000000 in
theorem majority_calls (x y z : Nat) (hx : x < 2 ^ 32) (hy : y < 2 ^ 32) (hz : z < 2 ^ 32) (w : World) :
    Calls Tryd.prog 27 #[.int .u32 (x : Int), .int .u32 (y : Int), .int .u32 (z : Int)] w fun e w' => e = .returned (.int .u32 (majN x y z : Nat)) ∧ w' = w := by
  have k1 := and32 x y hx hy
  have k2 := and32 x z hx hz
  have k3 := and32 y z hy hz
  have l1 : x &&& y < 2 ^ 32 := Nat.lt_of_le_of_lt Nat.and_le_left hx
  have l2 : x &&& z < 2 ^ 32 := Nat.lt_of_le_of_lt Nat.and_le_left hx
  have l3 : y &&& z < 2 ^ 32 := Nat.lt_of_le_of_lt Nat.and_le_left hy
  have k4 := xor32 (x &&& y) (x &&& z) l1 l2
  have k5 := xor32 ((x &&& y) ^^^ (x &&& z)) (y &&& z) (Nat.xor_lt_two_pow (n := 32) l1 l2) l3
  clear l1 l2 l3 hx hy hz
  go_enter Tryd.func27, Tryd.ntmps27
  go_wp2
  go_ret
  exact ⟨rfl, rfl⟩
end Go.Proofs.YtmgogcoafhompaaDoor
