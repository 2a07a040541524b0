/-
  clapperref03.right, shift: a word turned, and shifted, right.
-/
import Derived.Test.YtmgogcoafhompaaDoorSMath
import Derived.Test.YtmgogcoafhompaaDoorRows
import Derived.WalkKit
import Derived.WalkSpells
import Derived.WalkLawsBesides
import Derived.Deep.LoopGhost
import Derived.BigQuiet
namespace Go.Proofs.YtmgogcoafhompaaDoor
open Go.RowKit

theorem veil32 {p : Prop} (h : p) : Hid p := h

set_option maxRecDepth 100000 in
set_option maxHeartbeats 1000000 in
theorem right_calls (x n : Nat) (hx : x < 2 ^ 32) (hn : n ≤ 32) (w : World) :
    Calls Tryd.prog 18 #[.int .u32 (x : Int), .int .i64 (n : Int)] w fun e w' => e = .returned (.int .u32 (rot x n : Nat)) ∧ w' = w := by
  have HX := veil32 hx
  clear hx
  have hni : (n : Int) ≤ 32 := by omega
  go_enter Tryd.func18, Tryd.ntmps18
  go_wp2
  go_loopw [0, 5] (fun y i wr => ∃ k : Nat, k ≤ n ∧ i = .int .i64 (k : Int) ∧ y = .int .u32 (rot x k : Nat) ∧ wr = w)
    (fun _ i _ => n - (intOf i).toNat)
  case atStart => exact ⟨0, by omega, rfl, by rw [rot_zero], rfl⟩
  case round =>
    obtain ⟨k, hk, rfl, rfl, rfl⟩ := hrel
    by_cases hlt : k < n
    · have hlti : (k : Int) < (n : Int) := by omega
      have hs := rot_step (x := x) (n := k) (by omega)
      have hl := rot_lt (x := x) (n := k) (by omega) HX.out
      have hl2 := rot_lt (x := x) (n := k + 1) (by omega) HX.out
      obtain ⟨y, hy⟩ : ∃ y : Int, y = ((rot x k : Nat) : Int) := ⟨_, rfl⟩
      obtain ⟨z, hz⟩ : ∃ z : Int, z = ((rot x (k + 1) : Nat) : Int) := ⟨_, rfl⟩
      have e : y / 2 + 2147483648 * (y % 2) = z := by omega
      have y0 : 0 ≤ y := by omega
      have y1 : y ≤ 4294967295 := by omega
      have z1 : z ≤ 4294967295 := by omega
      rw [← hy]
      have HZ := veil32 hz
      clear hs hl hl2 hy hz
      have hd : y % 2 = 1 ∨ y % 2 = 0 := by omega
      rcases hd with h | h
      · rw [h] at e
        have e2 : y / 2 + 2147483648 = z := by omega
        clear e
        go_wp2
        go_roundw
        case rel => exact ⟨k + 1, by omega, by go_num, by rw [← HZ.out], trivial⟩
        case measure => simp [intOf]; omega
      · rw [h] at e
        have e2 : y / 2 = z := by omega
        clear e
        go_wp2
        go_roundw
        case rel => exact ⟨k + 1, by omega, by go_num, by rw [← HZ.out, e2], trivial⟩
        case measure => simp [intOf]; omega
    · obtain rfl : k = n := by omega
      go_wp2
      go_ret
      exact ⟨rfl, rfl⟩

set_option maxRecDepth 100000 in
set_option maxHeartbeats 1000000 in
theorem shift_calls (x n : Nat) (hx : x < 2 ^ 32) (hn : n ≤ 32) (w : World) :
    Calls Tryd.prog 19 #[.int .u32 (x : Int), .int .i64 (n : Int)] w fun e w' => e = .returned (.int .u32 (x / 2 ^ n : Nat)) ∧ w' = w := by
  have HX := veil32 hx
  clear hx
  have hni : (n : Int) ≤ 32 := by omega
  go_enter Tryd.func19, Tryd.ntmps19
  go_wp2
  go_loopw [0, 5] (fun y i wr => ∃ k : Nat, k ≤ n ∧ i = .int .i64 (k : Int) ∧ y = .int .u32 (x / 2 ^ k : Nat) ∧ wr = w)
    (fun _ i _ => n - (intOf i).toNat)
  case atStart => exact ⟨0, by omega, rfl, by rw [Nat.pow_zero, Nat.div_one], rfl⟩
  case round =>
    obtain ⟨k, hk, rfl, rfl, rfl⟩ := hrel
    by_cases hlt : k < n
    · have hlti : (k : Int) < (n : Int) := by omega
      have hs : x / 2 ^ (k + 1) = x / 2 ^ k / 2 := by rw [Nat.pow_succ, Nat.div_div_eq_div_mul]
      have hl : x / 2 ^ k < 2 ^ 32 := Nat.lt_of_le_of_lt (Nat.div_le_self _ _) HX.out
      obtain ⟨y, hy⟩ : ∃ y : Int, y = ((x / 2 ^ k : Nat) : Int) := ⟨_, rfl⟩
      obtain ⟨z, hz⟩ : ∃ z : Int, z = ((x / 2 ^ (k + 1) : Nat) : Int) := ⟨_, rfl⟩
      have HZ := veil32 hz
      rw [hs] at hz
      rw [← hy]
      generalize x / 2 ^ k = q at *
      have e2 : y / 2 = z := by omega
      have y0 : 0 ≤ y := by omega
      have y1 : y ≤ 4294967295 := by omega
      clear hs hl hy hz
      go_wp2
      go_roundw
      case rel => exact ⟨k + 1, by omega, by go_num, by rw [← HZ.out, e2], trivial⟩
      case measure => simp [intOf]; omega
    · obtain rfl : k = n := by omega
      go_wp2
      go_ret
      exact ⟨rfl, rfl⟩
end Go.Proofs.YtmgogcoafhompaaDoor
