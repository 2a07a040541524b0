/-
  clapperref01.Of: the document's number of bytes.
-/
import Derived.Test.YtlkpbjfkncmcgaaOf
import Derived.Test.YtlkpbjfkncmcgaaBytes
import Derived.BigRegion
namespace Go.Proofs.Ytlkpbjfkncmcgaa
open Go.RowKit

theorem pt_put (L c k j : Nat) (hL : L < 256 ^ k) (hc : c < 256) : pt (L + c * 256 ^ k) j = if j = k / 2 then pt L j + (c * 256 ^ (k % 2) : Nat) else pt L j := by
  have h := dg_put 2 (k / 2) (k % 2) L c (Nat.mod_lt _ (by omega)) (by rw [Nat.div_add_mod]; exact hL) hc j
  rw [Nat.div_add_mod, ← w16_bytes] at h
  unfold pt
  rw [h]
  split
  · rw [Int.natCast_add]
  · rfl
theorem rof_even (L c k : Nat) (hL : L < 256 ^ k) (hc : c < 256) (hk : k % 2 = 0) : pt L (k / 2) + (c : Int) = pt (L + c * 256 ^ k) (k / 2) := by
  rw [pt_put L c k _ hL hc, if_pos rfl, hk]; simp
theorem rof_odd (L c k : Nat) (hL : L < 256 ^ k) (hc : c < 256) (hk : k % 2 = 1) : pt L (k / 2) + 256 * (c : Int) = pt (L + c * 256 ^ k) (k / 2) := by
  rw [pt_put L c k _ hL hc, if_pos rfl, hk]; omega
theorem rof_step (z : Nat → Nat) (k : Nat) (hz : ∀ j, z j < 256) (i : Nat) :
    (if i = k / 2 then Value.int .i64 (pt (lev z k + z k * 256 ^ k) (k / 2)) else Value.int .i64 (pt (lev z k) i)) = Value.int .i64 (pt (lev z (k + 1)) i) := by
  show _ = Value.int .i64 (pt (lev z k + z k * 256 ^ k) i)
  by_cases h : i = k / 2
  · rw [if_pos h, h]
  · rw [if_neg h, pt_put _ _ _ _ (lev_lt hz k) (hz k), if_neg h]
theorem pt_zero (i : Nat) : pt 0 i = 0 := by unfold pt dg; simp

set_option maxRecDepth 100000 in
set_option maxHeartbeats 2000000 in
theorem rof_some (b o n c : Nat) (y : Nat → Nat) (hy : ∀ j, y j < 256) (hn : n ≤ 32) (w : World) (hb : b < w.heap.size) (hcell : ∀ j, j < n → w.cell? ⟨b, o + j, none⟩ = some (.int .u8 (y j))) :
    Calls Try.prog 28 #[.slice (some ⟨b, o, none⟩) n c] w fun e w' => e = .returned (.agg #[.int .u64 (wd (lev (fun k => y (n - 1 - k)) n) 0), .int .u64 (wd (lev (fun k => y (n - 1 - k)) n) 1), .int .u64 (wd (lev (fun k => y (n - 1 - k)) n) 2), .int .u64 (wd (lev (fun k => y (n - 1 - k)) n) 3)]) ∧ Below w.heap.size w w' := by
  obtain ⟨i0, hi, hz0, hz1, hz2⟩ := info_parts infoInt
  have hmk : ∀ W : World, (Instr.makeSlice 47 (.int .i64 16) (.int .i64 16)).run Try.prog W = .ok (.slice (some ⟨W.heap.size, 0, none⟩) 16 16) (W.alloc (.cells (madeCells #[.int .i64 0] 16) 3)) :=
    fun W => run_make_row 47 3 i0 (.int .i64 0) Try.underlying47 hi hz0 hz1 rfl .i64 .i64 16 (by rw [hz2]; omega) (by omega) W
  have HY := veil hy
  have HC := veil hcell
  clear hy hcell
  have hn' : (n : Int) ≤ 32 := by omega
  go_enter Try.func28, Try.ntmps28
  go_wp2
  go_loopw [4] (fun i wr => ∃ k : Nat, k ≤ n ∧ i = .int .i64 k ∧ wr.rowIs w.heap.size 24 4 (fun _ => .int .u64 0) ∧ wr.rowIs (w.heap.size + 1) 3 16 (fun j => .int .i64 (pt (lev (fun k => y (n - 1 - k)) k) j)) ∧ Below w.heap.size w wr)
    (fun i _ => n - (intOf i).toNat)
  case atStart => exact ⟨0, by omega, rfl, (row_new (n := 4) rfl rfl (arr4 fun _ => .int .u64 0)).alloc _, (row_made (z := .int .i64 0) (by simp)).congr (fun i _ => by rw [lev, pt_zero]), ((Below.refl _ _).alloc (by simp) _).alloc (by simp) _⟩
  case round =>
    obtain ⟨k, hk, rfl, hR, hS, hbel⟩ := hrel
    by_cases hlt : k < n
    · have c1 := hS.cell (i := k / 2) (by omega)
      have f1 := hS.frozen (k / 2)
      obtain ⟨j, hj⟩ : ∃ j, j = n - 1 - k := ⟨_, rfl⟩
      have hji : (n : Int) - 1 - (k : Int) = (j : Int) := by omega
      have hjn : (j : Int) < (n : Int) := by omega
      have hj0 : (0 : Int) ≤ (j : Int) := by omega
      have hkn : (k : Int) < (n : Int) := by omega
      have c2 := (hbel.cell (p := ⟨b, o + j, none⟩) hb).trans (HC.out j (by omega))
      have l1 := pt_lo (lev (fun k => y (n - 1 - k)) k) (k / 2)
      have u1 : pt (lev (fun k => y (n - 1 - k)) k) (k / 2) ≤ 65535 := by have := pt_lt (lev (fun k => y (n - 1 - k)) k) (k / 2); omega
      have u2 : (y j : Int) ≤ 255 := by have := HY.out j; omega
      have u3 : (0 : Int) ≤ (y j : Int) := by omega
      have HS := veil (rof_step (fun k => y (n - 1 - k)) k (fun j => HY.out _))
      have HJ := veil hj
      clear hj
      rcases Nat.mod_two_eq_zero_or_one k with h2 | h2
      · have hm : ((k : Int) % 2 == 0) = true := by rw [beq_iff_eq]; omega
        have HM := veil h2
        clear h2
        go_wp2
        go_region
        all_goals
          go_wp2
          go_roundw
          case rel =>
            rw [show y j = y (n - 1 - k) by rw [HJ.out], rof_even _ _ _ (lev_lt (fun j => HY.out _) k) (HY.out _) HM.out]
            exact ⟨k + 1, by omega, by go_num, (row_far hR (by omega) _).drew, ((hS.set (k / 2) _).congr fun i _ => HS.out i).drew, (below_set hbel (by omega) _).drew⟩
          case measure => simp [intOf]; omega
      · have hm : ((k : Int) % 2 == 0) = false := by rw [beq_eq_false_iff_ne]; omega
        have HM := veil h2
        clear h2
        go_wp2
        go_region
        all_goals
          go_wp2
          go_roundw
          case rel =>
            rw [show y j = y (n - 1 - k) by rw [HJ.out], rof_odd _ _ _ (lev_lt (fun j => HY.out _) k) (HY.out _) HM.out]
            exact ⟨k + 1, by omega, by go_num, (row_far hR (by omega) _).drew, ((hS.set (k / 2) _).congr fun i _ => HS.out i).drew, (below_set hbel (by omega) _).drew⟩
          case measure => simp [intOf]; omega
    · obtain rfl : k = n := by omega
      go_wp2_with fail
      refine (num_calls (lev (fun j => y (k - 1 - j)) k) (w.heap.size + 1) 16 _ (Pre.of_row hS)).mono ?_
      rintro e w3 ⟨rfl, hb3⟩
      have hR3 := row_below hR hb3 hR.lt
      have hB3 := hbel.trans (hb3.mono hbel.size)
      obtain ⟨d0, d1, d2, d3⟩ := row_c4 hR3
      obtain ⟨f0, f1, f2, f3⟩ := row_f4 hR3
      clear hR hS hbel hb3
      go_wp2
      refine bodyPost_ret (results_cell_row rfl _ _ w.heap.size 24 #[.int .u64 (wd (lev (fun j => y (k - 1 - j)) k) 0), .int .u64 (wd (lev (fun j => y (k - 1 - j)) k) 1), .int .u64 (wd (lev (fun j => y (k - 1 - j)) k) 2), .int .u64 (wd (lev (fun j => y (k - 1 - j)) k) 3)] (0, 0) _ rfl (blk4 (put4 hR3 fun j => .int .u64 (wd (lev (fun j => y (k - 1 - j)) k) j))) Try.underlying24 rfl (by kernel_rfl)) rfl ⟨rfl, below_put4 hB3 (by omega) _ _ _ _⟩

set_option maxRecDepth 100000 in
set_option maxHeartbeats 2000000 in
/-- Of no bytes: 0. -/
theorem rof_none (A : Option Addr) (c : Nat) (w : World) :
    Calls Try.prog 28 #[.slice A 0 c] w fun e w' => e = .returned (.agg #[.int .u64 (wd (0) 0), .int .u64 (wd (0) 1), .int .u64 (wd (0) 2), .int .u64 (wd (0) 3)]) ∧ Below w.heap.size w w' := by
  obtain ⟨i0, hi, hz0, hz1, hz2⟩ := info_parts infoInt
  have hmk : ∀ W : World, (Instr.makeSlice 47 (.int .i64 16) (.int .i64 16)).run Try.prog W = .ok (.slice (some ⟨W.heap.size, 0, none⟩) 16 16) (W.alloc (.cells (madeCells #[.int .i64 0] 16) 3)) :=
    fun W => run_make_row 47 3 i0 (.int .i64 0) Try.underlying47 hi hz0 hz1 rfl .i64 .i64 16 (by rw [hz2]; omega) (by omega) W
  go_enter Try.func28, Try.ntmps28
  go_wp2
  go_loopw [4] (fun i wr => i = .int .i64 0 ∧ wr.rowIs w.heap.size 24 4 (fun _ => .int .u64 0) ∧ wr.rowIs (w.heap.size + 1) 3 16 (fun _ => .int .i64 0) ∧ Below w.heap.size w wr)
    (fun _ _ => 0)
  case atStart => exact ⟨rfl, (row_new (n := 4) rfl rfl (arr4 fun _ => .int .u64 0)).alloc _, row_made (z := .int .i64 0) (by simp), ((Below.refl _ _).alloc (by simp) _).alloc (by simp) _⟩
  case round =>
    obtain ⟨rfl, hR, hS, hbel⟩ := hrel
    go_wp2_with fail
    refine (num_calls 0 (w.heap.size + 1) 16 _ ((Pre.of_row hS).congr fun i _ => by unfold ptv; rw [pt_zero])).mono ?_
    rintro e w3 ⟨rfl, hb3⟩
    have hR3 := row_below hR hb3 hR.lt
    have hB3 := hbel.trans (hb3.mono hbel.size)
    obtain ⟨d0, d1, d2, d3⟩ := row_c4 hR3
    obtain ⟨f0, f1, f2, f3⟩ := row_f4 hR3
    clear hR hS hbel hb3
    go_wp2
    refine bodyPost_ret (results_cell_row rfl _ _ w.heap.size 24 #[.int .u64 (wd (0) 0), .int .u64 (wd (0) 1), .int .u64 (wd (0) 2), .int .u64 (wd (0) 3)] (0, 0) _ rfl (blk4 (put4 hR3 fun j => .int .u64 (wd 0 j))) Try.underlying24 rfl (by kernel_rfl)) rfl ⟨rfl, below_put4 hB3 (by omega) _ _ _ _⟩
end Go.Proofs.Ytlkpbjfkncmcgaa
