/-
  limb.Cmp: which of two numbers is below.
-/
import Derived.Test.YtkfomfpeangcdaaRows
import Derived.Test.YtkfomfpeangcdaaMem
import Derived.WalkKit
import Derived.WalkSpells
import Derived.WalkLawsBesides
import Derived.Deep.LoopGhost
import Derived.Deep.RegionWith
import Derived.Deep.QuietTactic
import Derived.BigQuiet
namespace Go.Proofs.Ytkfomfpeangcdaa
open Go.RowKit

/-- -1, 0, 1: below, the same, above. -/
def cmpN (X Y : Nat) : Int := if X < Y then -1 else if Y < X then 1 else 0

theorem cmp_step (B X Y k : Nat) (hB : 0 < B) : cmpN (X % B ^ (k + 1)) (Y % B ^ (k + 1)) = if dg B X k < dg B Y k then -1 else if dg B Y k < dg B X k then 1 else cmpN (X % B ^ k) (Y % B ^ k) := by
  have hp : 0 < B ^ k := Nat.pow_pos hB
  have h1 := Nat.mod_lt X hp
  have h2 := Nat.mod_lt Y hp
  unfold cmpN
  rw [mod_succ, mod_succ]
  generalize dg B X k = x
  generalize dg B Y k = y
  generalize X % B ^ k = r at *
  generalize Y % B ^ k = s at *
  generalize B ^ k = P at *
  by_cases hxy : x < y
  · have : P * x + P ≤ P * y := by rw [← Nat.mul_succ]; exact Nat.mul_le_mul_left _ hxy
    rw [if_pos (by omega), if_pos hxy]
  · by_cases hyx : y < x
    · have : P * y + P ≤ P * x := by rw [← Nat.mul_succ]; exact Nat.mul_le_mul_left _ hyx
      rw [if_neg (by omega), if_pos (by omega), if_neg hxy, if_pos hyx]
    · have hxy' : x = y := by omega
      subst hxy'
      simp

theorem cmp_high (B X Y n m : Nat) (hB : 0 < B) (hX : X < B ^ n) (hY : Y < B ^ n) (hm : m < n) (h : ∀ j, m < j → j < n → dg B X j = dg B Y j) (hne : dg B X m ≠ dg B Y m) :
    cmpN X Y = if dg B X m < dg B Y m then -1 else 1 := by
  have e : X / B ^ (m + 1) = Y / B ^ (m + 1) := by
    have hn : B ^ n = B ^ (m + 1) * B ^ (n - (m + 1)) := by rw [← Nat.pow_add]; congr 1; omega
    refine eq_of_dg_lt hB (n := n - (m + 1)) ?_ ?_ fun i hi => ?_
    · rw [Nat.div_lt_iff_lt_mul (Nat.pow_pos hB), Nat.mul_comm, ← hn]; exact hX
    · rw [Nat.div_lt_iff_lt_mul (Nat.pow_pos hB), Nat.mul_comm, ← hn]; exact hY
    · have := h (m + 1 + i) (by omega) (by omega)
      unfold dg at *
      rwa [Nat.div_div_eq_div_mul, Nat.div_div_eq_div_mul, ← Nat.pow_add]
  have c : cmpN X Y = cmpN (X % B ^ (m + 1)) (Y % B ^ (m + 1)) := by
    have hx := Nat.mod_add_div X (B ^ (m + 1))
    have hy := Nat.mod_add_div Y (B ^ (m + 1))
    rw [e] at hx
    unfold cmpN
    generalize B ^ (m + 1) * (Y / B ^ (m + 1)) = q at *
    generalize X % B ^ (m + 1) = r at *
    generalize Y % B ^ (m + 1) = s at *
    subst hx; subst hy
    simp
  rw [c, cmp_step B X Y m hB]
  by_cases hlt : dg B X m < dg B Y m
  · rw [if_pos hlt, if_pos hlt]
  · rw [if_neg hlt, if_neg hlt, if_pos (by omega)]

set_option maxHeartbeats 400000 in
theorem compare_lt (x y : Int) (h : x < y) (w : World) : Calls Try.prog 45 #[.int .u64 x, .int .u64 y] w fun e w' => e = .returned (.int .i64 (-1)) ∧ w' = w := by
  go_enter Try.func45, Try.ntmps45
  go_wp2
  go_ret
  exact ⟨rfl, rfl⟩
set_option maxHeartbeats 400000 in
theorem compare_gt (x y : Int) (h : y < x) (w : World) : Calls Try.prog 45 #[.int .u64 x, .int .u64 y] w fun e w' => e = .returned (.int .i64 1) ∧ w' = w := by
  go_enter Try.func45, Try.ntmps45
  go_wp2
  go_ret
  exact ⟨rfl, rfl⟩

theorem wd_cmp {X Y k : Nat} (h : dg w64 X k < dg w64 Y k) : wd X k < wd Y k := by unfold wd; omega

set_option maxHeartbeats 1000000 in
theorem cmp_calls (X Y : Nat) (hX : X < top) (hY : Y < top) (w : World) :
    Calls Try.prog 28 #[.agg #[.int .u64 (wd (X) 0), .int .u64 (wd (X) 1), .int .u64 (wd (X) 2), .int .u64 (wd (X) 3)], .agg #[.int .u64 (wd (Y) 0), .int .u64 (wd (Y) 1), .int .u64 (wd (Y) 2), .int .u64 (wd (Y) 3)]] w fun e w' => e = .returned (.int .i64 (cmpN X Y)) ∧ Below w.heap.size w w' := by
  go_enter Try.func28, Try.ntmps28
  go_wp2
  go_loopw [5] (fun i wr => ∃ k : Nat, k ≤ 4 ∧ i = .int .i64 ((k : Int) - 1) ∧ (∀ j, k ≤ j → j < 4 → dg w64 X j = dg w64 Y j) ∧ wr.rowIs w.heap.size 24 4 (fun j => .int .u64 (wd X j))
      ∧ wr.rowIs (w.heap.size + 1) 24 4 (fun j => .int .u64 (wd Y j)) ∧ Below w.heap.size w wr)
    (fun i _ => (intOf i + 1).toNat)
  case atStart => exact ⟨4, by omega, rfl, by intro j h1 h2; omega, (row_new (n := 4) (by simp) rfl (arr4 fun j => .int .u64 (wd X j))).alloc _, row_new (n := 4) (by simp) rfl (arr4 fun j => .int .u64 (wd Y j)), ((Below.refl _ _).alloc (by simp) _).alloc (by simp) _⟩
  case round =>
    obtain ⟨k, hk, hi, hall, hRX, hRY, hbel⟩ := hrel
    have HALL := veil hall
    clear hall
    cases k with
    | zero =>
      subst hi
      have hXY : X = Y := eq_of_dg_lt w64_pos hX hY fun j hj => HALL.out j (Nat.zero_le _) hj
      go_wp2
      go_ret
      have hc : cmpN X Y = 0 := by unfold cmpN; rw [if_neg (by omega), if_neg (by omega)]
      rw [hc]
      exact ⟨rfl, hbel⟩
    | succ m =>
      obtain rfl : _ = Value.int .i64 (m : Int) := hi.trans (by congr 1; omega)
      have hm : m < 4 := by omega
      go_wp2
      have c1 := hRX.cell hm
      have c2 := hRY.cell hm
      rcases Nat.lt_trichotomy (dg w64 X m) (dg w64 Y m) with h | h | h
      · have hlt := wd_cmp h
        have hne : (wd X m != wd Y m) = true := by rw [bne_iff_ne]; omega
        have hc : cmpN X Y = -1 := by rw [cmp_high w64 X Y 4 m w64_pos hX hY hm (fun j h1 h2 => HALL.out j (by omega) h2) (by omega), if_pos h]
        have HC := veil hc
        clear hc
        go_quiet (fail)
        go_wp2
        go_quiet ((go_at_call 45; exact quiet_more (compare_lt _ _ hlt _)))
        go_wp2
        go_ret
        rw [HC.out]
        exact ⟨rfl, below_drewN (below_drewN hbel _) _⟩
      · have hne : (wd X m != wd Y m) = false := by unfold wd; rw [h]; simp
        go_quiet (fail)
        go_wp2
        go_roundw
        case rel => exact ⟨m, by omega, by go_num, fun j h1 h2 => by
          by_cases e : j = m
          · rw [e]; exact h
          · exact HALL.out j (by omega) h2, row_drewN hRX _, row_drewN hRY _, below_drewN hbel _⟩
        case measure => simp [intOf]
      · have hlt := wd_cmp h
        have hne : (wd X m != wd Y m) = true := by rw [bne_iff_ne]; omega
        have hc : cmpN X Y = 1 := by rw [cmp_high w64 X Y 4 m w64_pos hX hY hm (fun j h1 h2 => HALL.out j (by omega) h2) (by omega), if_neg (by omega)]
        have HC := veil hc
        clear hc
        go_quiet (fail)
        go_wp2
        go_quiet ((go_at_call 45; exact quiet_more (compare_gt _ _ hlt _)))
        go_wp2
        go_ret
        rw [HC.out]
        exact ⟨rfl, below_drewN (below_drewN hbel _) _⟩
end Go.Proofs.Ytkfomfpeangcdaa
