/-
  limb.Of: the number of bytes.
-/
import Derived.Test.YtlkpbjfkncmcgaaLen
import Derived.BigRegion
namespace Go.Proofs.Ytlkpbjfkncmcgaa
open Go.RowKit

/-- The number of the lowest i bytes, z 0 the lowest. -/
def lev (z : Nat → Nat) : Nat → Nat
  | 0 => 0
  | i + 1 => lev z i + z i * 256 ^ i
theorem lev_lt {z : Nat → Nat} (hz : ∀ j, z j < 256) : ∀ i, lev z i < 256 ^ i
  | 0 => by simp [lev]
  | i + 1 => by
    have h := lev_lt hz i
    have h2 : z i * 256 ^ i ≤ 255 * 256 ^ i := Nat.mul_le_mul_right _ (by have := hz i; omega)
    show lev z i + z i * 256 ^ i < _
    rw [Nat.pow_succ]
    omega

theorem dg_put (m q r L c : Nat) (hr : r < m) (hL : L < 256 ^ (m * q + r)) (hc : c < 256) (j : Nat) :
    dg (256 ^ m) (L + c * 256 ^ (m * q + r)) j = if j = q then dg (256 ^ m) L j + c * 256 ^ r else dg (256 ^ m) L j := by
  have hB : 0 < 256 ^ m := Nat.pow_pos (by omega)
  have hp : ∀ k, 0 < (256 ^ m) ^ k := fun k => Nat.pow_pos hB
  have e : 256 ^ (m * q + r) = (256 ^ m) ^ q * 256 ^ r := by rw [Nat.pow_add, Nat.pow_mul]
  have hrm : 256 ^ r * 256 ≤ 256 ^ m := by rw [← Nat.pow_succ]; exact Nat.pow_le_pow_right (by omega) hr
  rw [e] at hL ⊢
  have hLq : L / (256 ^ m) ^ q < 256 ^ r := by rw [Nat.div_lt_iff_lt_mul (hp q), Nat.mul_comm]; exact hL
  have hcr : c * 256 ^ r ≤ 255 * 256 ^ r := Nat.mul_le_mul_right _ (by omega)
  rw [show c * ((256 ^ m) ^ q * 256 ^ r) = (256 ^ m) ^ q * (c * 256 ^ r) by rw [Nat.mul_left_comm]]
  by_cases hj : j = q
  · subst hj
    rw [if_pos rfl]
    unfold dg
    rw [Nat.add_mul_div_left _ _ (hp j), Nat.mod_eq_of_lt (by omega), Nat.mod_eq_of_lt (by omega)]
  · rw [if_neg hj]
    by_cases hlt : j < q
    · rw [← dg_mod _ q j hlt, Nat.add_mul_mod_self_left, dg_mod _ q j hlt]
    · have hjq : q + 1 ≤ j := by omega
      have hle : (256 ^ m) ^ (q + 1) ≤ (256 ^ m) ^ j := Nat.pow_le_pow_right hB hjq
      rw [Nat.pow_succ] at hle
      have h1 : (256 ^ m) ^ q * (256 ^ r + c * 256 ^ r) ≤ (256 ^ m) ^ q * 256 ^ m := Nat.mul_le_mul_left _ (by omega)
      rw [Nat.mul_add] at h1
      unfold dg
      rw [Nat.div_eq_of_lt (show L < _ by omega), Nat.div_eq_of_lt (show L + (256 ^ m) ^ q * (c * 256 ^ r) < _ by omega)]

theorem w64_bytes : w64 = 256 ^ 8 := by decide
theorem w16_bytes : w16 = 256 ^ 2 := by decide

theorem two_256 (r : Nat) : 2 ^ (r * 8) = 256 ^ r := by rw [Nat.mul_comm, Nat.pow_mul]
theorem wd_put (L c k j : Nat) (hL : L < 256 ^ k) (hc : c < 256) : wd (L + c * 256 ^ k) j = if j = k / 8 then wd L j + (c * 256 ^ (k % 8) : Nat) else wd L j := by
  have h := dg_put 8 (k / 8) (k % 8) L c (Nat.mod_lt _ (by omega)) (by rw [Nat.div_add_mod]; exact hL) hc j
  rw [Nat.div_add_mod, ← w64_bytes] at h
  unfold wd
  rw [h]
  split
  · rw [Int.natCast_add]
  · rfl
theorem of_word (L c k : Nat) (hL : L < 256 ^ k) (hc : c < 256) : bits .or .u64 (wd L (k / 8)) (IntKind.u64.wrap ((c : Int) * 2 ^ (k % 8 * 8))) = wd (L + c * 256 ^ k) (k / 8) := by
  have hr : k % 8 < 8 := Nat.mod_lt _ (by omega)
  have hp : 256 ^ (k % 8) ≤ 256 ^ 7 := Nat.pow_le_pow_right (by omega) (by omega)
  have h7 : (256 : Nat) ^ 7 = 72057594037927936 := by decide
  have hcr : c * 256 ^ (k % 8) ≤ 255 * 256 ^ (k % 8) := Nat.mul_le_mul_right _ (by omega)
  have hq : dg w64 L (k / 8) < 256 ^ (k % 8) := by
    have e : 256 ^ k = w64 ^ (k / 8) * 256 ^ (k % 8) := by
      rw [w64_bytes, ← Nat.pow_mul, ← Nat.pow_add, Nat.div_add_mod]
    unfold dg
    refine Nat.lt_of_le_of_lt (Nat.mod_le _ _) ?_
    rw [Nat.div_lt_iff_lt_mul (Nat.pow_pos w64_pos), Nat.mul_comm, ← e]
    exact hL
  have ec : (c : Int) * 2 ^ (k % 8 * 8) = ((c * 256 ^ (k % 8) : Nat) : Int) := by
    rw [← two_256, Int.natCast_mul, Int.natCast_pow]
    rfl
  rw [wd_put L c k _ hL hc, if_pos rfl, ec, IntKind.wrap_u64]
  unfold wd
  rw [show ((c * 256 ^ (k % 8) : Nat) : Int) % 18446744073709551616 = ((c * 256 ^ (k % 8) : Nat) : Int) by omega]
  rw [u64_or_nat _ _ (by omega) (by omega), Nat.or_comm, nat_join (8 * (k % 8)) _ _ (by rw [Nat.mul_comm 8, two_256]; exact Nat.mul_mod_left _ _) (by rw [Nat.mul_comm 8, two_256]; exact hq)]
  omega

theorem of_step (z : Nat → Nat) (k : Nat) (hz : ∀ j, z j < 256) (i : Nat) :
    (if i = k / 8 then Value.int .u64 (wd (lev z k + z k * 256 ^ k) (k / 8)) else Value.int .u64 (wd (lev z k) i)) = Value.int .u64 (wd (lev z (k + 1)) i) := by
  show _ = Value.int .u64 (wd (lev z k + z k * 256 ^ k) i)
  by_cases h : i = k / 8
  · rw [if_pos h, h]
  · rw [if_neg h, wd_put _ _ _ _ (lev_lt hz k) (hz k), if_neg h]
theorem wd_zero (i : Nat) : wd 0 i = 0 := by unfold wd dg; simp

set_option maxRecDepth 100000 in
set_option maxHeartbeats 1000000 in
theorem of_some (b o n c : Nat) (y : Nat → Nat) (hy : ∀ j, y j < 256) (hn : n ≤ 32) (w : World) (hb : b < w.heap.size) (hcell : ∀ j, j < n → w.cell? ⟨b, o + j, none⟩ = some (.int .u8 (y j))) :
    Calls Try.prog 25 #[.slice (some ⟨b, o, none⟩) n c] w fun e w' => e = .returned (.tuple #[.agg #[.int .u64 (wd (lev (fun k => y (n - 1 - k)) n) 0), .int .u64 (wd (lev (fun k => y (n - 1 - k)) n) 1), .int .u64 (wd (lev (fun k => y (n - 1 - k)) n) 2), .int .u64 (wd (lev (fun k => y (n - 1 - k)) n) 3)], .nilIface]) ∧ Below w.heap.size w w' := by
  have HY := veil hy
  have HC := veil hcell
  clear hy hcell
  have hn' : (n : Int) ≤ 32 := by omega
  go_enter Try.func25, Try.ntmps25
  go_wp2
  go_loopw [13] (fun i wr => ∃ k : Nat, k ≤ n ∧ i = .int .i64 k ∧ wr.rowIs w.heap.size 24 4 (fun _ => .int .u64 0) ∧ wr.rowIs (w.heap.size + 1) 24 4 (fun j => .int .u64 (wd (lev (fun k => y (n - 1 - k)) k) j)) ∧ Below w.heap.size w wr)
    (fun i _ => n - (intOf i).toNat)
  case atStart => exact ⟨0, by omega, rfl, (row_new (n := 4) rfl rfl (arr4 fun _ => .int .u64 0)).alloc _, (row_new (n := 4) (f := fun _ => .int .u64 0) (by simp) rfl (arr4 fun _ => .int .u64 0)).congr (fun i _ => by rw [lev, wd_zero]), ((Below.refl _ _).alloc (by simp) _).alloc (by simp) _⟩
  case round =>
    obtain ⟨k, hk, rfl, hR, hS, hbel⟩ := hrel
    by_cases hlt : k < n
    · have hk8 : k / 8 < 4 := by omega
      have c1 := hS.cell hk8
      have f1 := hS.frozen (k / 8)
      obtain ⟨j, hj⟩ : ∃ j, j = n - 1 - k := ⟨_, rfl⟩
      have hji : (n : Int) - 1 - (k : Int) = (j : Int) := by omega
      have hjn : (j : Int) < (n : Int) := by omega
      have hkn : (k : Int) < (n : Int) := by omega
      have c2 := (hbel.cell (p := ⟨b, o + j, none⟩) hb).trans (HC.out j (by omega))
      have l1 := wd_lo (lev (fun k => y (n - 1 - k)) k) (k / 8)
      have u1 := wd_le (lev (fun k => y (n - 1 - k)) k) (k / 8)
      have u2 : (y j : Int) ≤ 255 := by have := HY.out j; omega
      have hst := of_step (fun k => y (n - 1 - k)) k (fun j => HY.out _)
      have HS := veil hst
      clear hst
      have HJ := veil hj
      clear hj
      go_wp2
      go_region
      all_goals
        go_wp2
        go_roundw
        case rel =>
          rw [show y j = y (n - 1 - k) by rw [HJ.out], of_word _ _ _ (lev_lt (fun j => HY.out _) k) (HY.out _)]
          exact ⟨k + 1, by omega, by go_num, (row_far hR (by omega) _).drew, ((hS.set (k / 8) _).congr fun i _ => HS.out i).drew, (below_set hbel (by omega) _).drew⟩
        case measure => simp [intOf]; omega
    · obtain rfl : k = n := by omega
      obtain ⟨c0, c1, c2, c3⟩ := row_c4 hS
      obtain ⟨d0, d1, d2, d3⟩ := row_c4 hR
      obtain ⟨f0, f1, f2, f3⟩ := row_f4 hR
      go_wp2
      refine bodyPost_ret (results_cell_tmp2 rfl _ _ w.heap.size 24 #[.int .u64 (wd (lev (fun j => y (k - 1 - j)) k) 0), .int .u64 (wd (lev (fun j => y (k - 1 - j)) k) 1), .int .u64 (wd (lev (fun j => y (k - 1 - j)) k) 2), .int .u64 (wd (lev (fun j => y (k - 1 - j)) k) 3)] (0, 0) 4 22 rfl (blk4 (put4 hR fun j => .int .u64 (wd (lev (fun j => y (k - 1 - j)) k) j))) Try.underlying24 (by kernel_rfl)) rfl ⟨rfl, below_put4 hbel (Nat.le_refl _) _ _ _ _⟩

set_option maxRecDepth 100000 in
set_option maxHeartbeats 1000000 in
/-- Of no bytes: 0. -/
theorem of_none (A : Option Addr) (c : Nat) (w : World) :
    Calls Try.prog 25 #[.slice A 0 c] w fun e w' => e = .returned (.tuple #[.agg #[.int .u64 (wd (0) 0), .int .u64 (wd (0) 1), .int .u64 (wd (0) 2), .int .u64 (wd (0) 3)], .nilIface]) ∧ Below w.heap.size w w' := by
  simp only [wd_zero]
  go_enter Try.func25, Try.ntmps25
  go_wp2
  go_loopw [13] (fun i wr => i = .int .i64 0 ∧ wr.rowIs w.heap.size 24 4 (fun _ => .int .u64 0) ∧ wr.rowIs (w.heap.size + 1) 24 4 (fun _ => .int .u64 0) ∧ Below w.heap.size w wr)
    (fun _ _ => 0)
  case atStart => exact ⟨rfl, (row_new (n := 4) rfl rfl (arr4 fun _ => .int .u64 0)).alloc _, row_new (n := 4) (by simp) rfl (arr4 fun _ => .int .u64 0), ((Below.refl _ _).alloc (by simp) _).alloc (by simp) _⟩
  case round =>
    obtain ⟨rfl, hR, hS, hbel⟩ := hrel
    obtain ⟨c0, c1, c2, c3⟩ := row_c4 hS
    obtain ⟨d0, d1, d2, d3⟩ := row_c4 hR
    obtain ⟨f0, f1, f2, f3⟩ := row_f4 hR
    go_wp2
    refine bodyPost_ret (results_cell_tmp2 rfl _ _ w.heap.size 24 #[.int .u64 0, .int .u64 0, .int .u64 0, .int .u64 0] (0, 0) 4 22 rfl (blk4 (put4 hR fun _ => .int .u64 0)) Try.underlying24 (by kernel_rfl)) rfl ⟨rfl, below_put4 hbel (Nat.le_refl _) _ _ _ _⟩

set_option maxRecDepth 100000 in
set_option maxHeartbeats 1000000 in
/-- Of more than 32 bytes: ErrArg. -/
theorem of_big (A : Option Addr) (n c : Nat) (hn : 32 < n) (w : World) :
    Calls Try.prog 25 #[.slice A n c] w fun e w' => e = .returned (.tuple #[.agg #[.int .u64 (wd (0) 0), .int .u64 (wd (0) 1), .int .u64 (wd (0) 2), .int .u64 (wd (0) 3)], .iface 41 (.int .i64 1)]) ∧ Below w.heap.size w w' := by
  have hR : (w.alloc (.cells #[.int .u64 0, .int .u64 0, .int .u64 0, .int .u64 0] 24)).rowIs w.heap.size 24 4 (fun _ => .int .u64 0) := row_new (n := 4) rfl rfl (arr4 fun _ => .int .u64 0)
  have hi : (32 : Int) < (n : Int) := by omega
  clear hn
  simp only [wd_zero]
  go_enter Try.func25, Try.ntmps25
  go_wp2
  refine bodyPost_ret (results_cell_tmp2 rfl _ _ w.heap.size 24 #[.int .u64 0, .int .u64 0, .int .u64 0, .int .u64 0] (0, 0) 4 22 rfl (blk4 hR) Try.underlying24 (by kernel_rfl)) rfl ⟨rfl, (Below.refl _ _).alloc (Nat.le_refl _) _⟩
end Go.Proofs.Ytlkpbjfkncmcgaa
