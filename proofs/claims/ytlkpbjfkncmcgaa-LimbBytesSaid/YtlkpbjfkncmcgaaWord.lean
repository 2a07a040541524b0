/-
  clapperref01.word, Num, Wide: numbers of their parts.
-/
import Derived.Test.YtlkpbjfkncmcgaaParts
import Derived.Deep.QuietTactic
import Derived.BigQuiet
import Derived.Deep.RegionWith
namespace Go.Proofs.Ytlkpbjfkncmcgaa
open Go.RowKit

set_option maxHeartbeats 400000 in
theorem word_core (Z g n c j : Nat) (hn : n ≤ 32) (hj : j + 4 ≤ n) (w : World) (hp : Pre w g 3 n (ptv Z)) :
    Calls Try.prog 37 #[.slice (some ⟨g, 0, none⟩) n c, .int .i64 (j : Int)] w fun e w' => e = .returned (.int .u64 (pt Z j + 65536 * pt Z (j + 1) + 4294967296 * pt Z (j + 2) + 281474976710656 * pt Z (j + 3))) ∧ ∃ m, w' = w.drewN m := by
  have c0 : w.cell? ⟨g, j, none⟩ = some (.int .i64 (pt Z j)) := hp.cell (by omega)
  have c1 : w.cell? ⟨g, j + 1, none⟩ = some (.int .i64 (pt Z (j + 1))) := hp.cell (by omega)
  have c2 : w.cell? ⟨g, j + 2, none⟩ = some (.int .i64 (pt Z (j + 2))) := hp.cell (by omega)
  have c3 : w.cell? ⟨g, j + 3, none⟩ = some (.int .i64 (pt Z (j + 3))) := hp.cell (by omega)
  have l0 := pt_lo Z j
  have l1 := pt_lo Z (j + 1)
  have l2 := pt_lo Z (j + 2)
  have l3 := pt_lo Z (j + 3)
  have u0 := pt_lt Z j
  have u1 := pt_lt Z (j + 1)
  have u2 := pt_lt Z (j + 2)
  have u3 := pt_lt Z (j + 3)
  clear hp
  go_enter Try.func37, Try.ntmps37
  go_wp2
  go_quiet (fail)
  go_wp2
  go_ret
  exact ⟨rfl, _, rfl⟩
theorem word_calls (Z g n c q : Nat) (a : Int) (ha : a = ((4 * q : Nat) : Int)) (hn : n ≤ 32) (hj : 4 * q + 4 ≤ n) (w : World) (hp : Pre w g 3 n (ptv Z)) :
    Calls Try.prog 37 #[.slice (some ⟨g, 0, none⟩) n c, .int .i64 a] w fun e w' => e = .returned (.int .u64 (wd Z q)) ∧ ∃ m, w' = w.drewN m := by
  subst ha
  rw [wd_pt]
  exact word_core Z g n c (4 * q) hn hj w hp

set_option maxHeartbeats 400000 in
/-- Num of 16 parts. -/
theorem num_calls (Z g c : Nat) (w : World) (hp : Pre w g 3 16 (ptv Z)) :
    Calls Try.prog 32 #[.slice (some ⟨g, 0, none⟩) 16 c] w fun e w' => e = .returned (.agg #[.int .u64 (wd (Z) 0), .int .u64 (wd (Z) 1), .int .u64 (wd (Z) 2), .int .u64 (wd (Z) 3)]) ∧ Below w.heap.size w w' := by
  have hR : (w.alloc (.cells #[.int .u64 0, .int .u64 0, .int .u64 0, .int .u64 0] 24)).rowIs w.heap.size 24 4 (fun _ => .int .u64 0) := row_new (n := 4) rfl rfl (arr4 fun _ => .int .u64 0)
  have HR := veil hR
  have HP := veil (hp.alloc (.cells #[.int .u64 0, .int .u64 0, .int .u64 0, .int .u64 0] 24))
  obtain ⟨d0, d1, d2, d3⟩ := row_c4 hR
  obtain ⟨f0, f1, f2, f3⟩ := row_f4 hR
  clear hR hp
  go_enter Try.func32, Try.ntmps32
  go_wp2_with fail
  refine (word_calls Z g 16 c 0 0 rfl (by omega) (by omega) _ HP.out).mono ?_
  rintro e w1 ⟨rfl, m1, rfl⟩
  go_wp2_with fail
  refine (word_calls Z g 16 c 1 4 rfl (by omega) (by omega) _ (HP.out.drewN _)).mono ?_
  rintro e w1 ⟨rfl, m2, rfl⟩
  go_wp2_with fail
  refine (word_calls Z g 16 c 2 8 rfl (by omega) (by omega) _ (HP.out.drewN _)).mono ?_
  rintro e w1 ⟨rfl, m3, rfl⟩
  go_wp2_with fail
  refine (word_calls Z g 16 c 3 12 rfl (by omega) (by omega) _ (HP.out.drewN _)).mono ?_
  rintro e w1 ⟨rfl, m4, rfl⟩
  go_wp2
  refine bodyPost_ret (results_cell_row rfl _ _ w.heap.size 24 #[.int .u64 (wd (Z) 0), .int .u64 (wd (Z) 1), .int .u64 (wd (Z) 2), .int .u64 (wd (Z) 3)] (0, 0) _ rfl (blk4 (put4 (row_drewN HR.out _) fun j => .int .u64 (wd Z j))) Try.underlying24 rfl (by kernel_rfl)) rfl ⟨rfl, below_put4 (below_drewN ((Below.refl _ _).alloc (Nat.le_refl _) _) _) (Nat.le_refl _) _ _ _ _⟩

theorem row_step8 {X : Nat} {k : Nat} (hk : k < 8) : ∀ i, i < 8 → (if i = k then Value.int .u64 (wd X k) else Value.int .u64 (if i < k then wd X i else 0)) = Value.int .u64 (if i < k + 1 then wd X i else 0) := by
  intro i _
  by_cases h : i = k
  · subst h; simp
  · rw [if_neg h]; by_cases h2 : i < k
    · rw [if_pos h2, if_pos (by omega)]
    · rw [if_neg h2, if_neg (by omega)]

set_option maxHeartbeats 400000 in
/-- Wide of 32 parts. -/
theorem wide_calls (Z g c : Nat) (w : World) (hp : Pre w g 3 32 (ptv Z)) :
    Calls Try.prog 35 #[.slice (some ⟨g, 0, none⟩) 32 c] w fun e w' => e = .returned (.agg #[.int .u64 (wd (Z) 0), .int .u64 (wd (Z) 1), .int .u64 (wd (Z) 2), .int .u64 (wd (Z) 3), .int .u64 (wd (Z) 4), .int .u64 (wd (Z) 5), .int .u64 (wd (Z) 6), .int .u64 (wd (Z) 7)]) ∧ Below w.heap.size w w' := by
  have HP := veil hp
  have hg := hp.lt
  clear hp
  go_enter Try.func35, Try.ntmps35
  go_wp2
  go_loopw [4] (fun i wr => ∃ k : Nat, k ≤ 8 ∧ i = .int .i64 k ∧ wr.rowIs w.heap.size 31 8 (fun _ => .int .u64 0) ∧ wr.rowIs (w.heap.size + 1) 31 8 (fun j => .int .u64 (if j < k then wd Z j else 0)) ∧ Below w.heap.size w wr)
    (fun i _ => 8 - (intOf i).toNat)
  case atStart => exact ⟨0, by omega, rfl, (row_new (n := 8) rfl rfl (arr8 fun _ => .int .u64 0)).alloc _, row_new (n := 8) (by simp) rfl (arr8 fun _ => .int .u64 0), ((Below.refl _ _).alloc (by simp) _).alloc (by simp) _⟩
  case round =>
    obtain ⟨k, hk, rfl, hR, hS, hbel⟩ := hrel
    by_cases hlt : k < 8
    · have c1 := hS.cell hlt
      have f1 := hS.frozen k
      go_wp2_with fail
      refine (word_calls Z g 32 c k _ (by omega) (by omega) (by omega) _ (HP.out.below hbel hg)).mono ?_
      rintro e w1 ⟨rfl, m1, rfl⟩
      go_wp2
      go_roundw
      case rel => exact ⟨k + 1, by omega, by go_num, row_far (row_drewN hR _) (by omega) _, ((row_drewN hS _).set k _).congr (row_step8 hlt), below_set (below_drewN hbel _) (by omega) _⟩
      case measure => simp [intOf]; omega
    · obtain rfl : k = 8 := by omega
      obtain ⟨c0, c1, c2, c3, c4, c5, c6, c7⟩ := row_c8 hS
      obtain ⟨d0, d1, d2, d3, d4, d5, d6, d7⟩ := row_c8 hR
      obtain ⟨f0, f1, f2, f3, f4, f5, f6, f7⟩ := row_f8 hR
      simp only [show (0 : Nat) < 8 from by omega, show (1 : Nat) < 8 from by omega, show (2 : Nat) < 8 from by omega, show (3 : Nat) < 8 from by omega, show (4 : Nat) < 8 from by omega, show (5 : Nat) < 8 from by omega, show (6 : Nat) < 8 from by omega, show (7 : Nat) < 8 from by omega, if_true] at c0 c1 c2 c3 c4 c5 c6 c7
      clear hS
      go_wp2
      refine bodyPost_ret (results_cell_row rfl _ _ w.heap.size 31 #[.int .u64 (wd (Z) 0), .int .u64 (wd (Z) 1), .int .u64 (wd (Z) 2), .int .u64 (wd (Z) 3), .int .u64 (wd (Z) 4), .int .u64 (wd (Z) 5), .int .u64 (wd (Z) 6), .int .u64 (wd (Z) 7)] (0, 0) _ rfl (blk8 (put8 hR fun j => .int .u64 (wd Z j))) Try.underlying31 rfl (by kernel_rfl)) rfl ⟨rfl, below_put8 hbel (Nat.le_refl _) _ _ _ _ _ _ _ _⟩
end Go.Proofs.Ytlkpbjfkncmcgaa
