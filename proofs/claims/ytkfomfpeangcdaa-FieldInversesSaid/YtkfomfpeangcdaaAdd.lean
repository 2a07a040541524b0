/-
  limb.Add: the sum.
-/
import Derived.Test.YtkfomfpeangcdaaRows
import Derived.Test.YtkfomfpeangcdaaMath
import Derived.WalkKit
import Derived.WalkSpells
import Derived.WalkLawsBesides
import Derived.Deep.LoopGhost
import Derived.Deep.RegionWith
import Derived.Test.YtkfomfpeangcdaaMem
namespace Go.Proofs.Ytkfomfpeangcdaa
open Go.RowKit

theorem add64 (x y c : Int) (hx : 0 ≤ x) (hy : 0 ≤ y) (hc0 : 0 ≤ c) (hc : c ≤ 1) (w : World) :
    (callFunc 48 #[.int .u64 x, .int .u64 y, .int .u64 c]).run Try.prog w = .ok (.value (.tuple #[.int .u64 ((x + y + c) % 18446744073709551616), .int .u64 ((x + y + c) / 18446744073709551616)])) w := by
  rw [run_callFunc_extern Try.func48 (by kernel_rfl) (by kernel_rfl) (by kernel_rfl) (e := add64Entry) (by kernel_rfl), run_add64 x y c hx hy hc0 hc]
  rfl

/-- The carry, as the program holds it. -/
def cyI (X Y i : Nat) : Int := (cy w64 X Y i : Nat)
theorem add64_at (X Y k : Nat) (w : World) :
    (callFunc 48 #[.int .u64 (wd X k), .int .u64 (wd Y k), .int .u64 (cyI X Y k)]).run Try.prog w = .ok (.value (.tuple #[.int .u64 (wd (X + Y) k), .int .u64 (cyI X Y (k + 1))])) w := by
  have hc := cy_le w64_pos X Y k
  rw [add64 _ _ _ (wd_lo _ _) (wd_lo _ _) (by unfold cyI; omega) (by unfold cyI; omega)]
  unfold wd cyI
  rw [cy_succ w64_pos, dg_add w64_pos]
  unfold w64
  simp

theorem cyI_top {X Y : Nat} (hX : X < top) (hY : Y < top) : (cyI X Y 4 != 0) = decide (top ≤ X + Y) := by
  unfold cyI
  rw [cy_top (n := 4) hX hY]
  show _ = decide (w64 ^ 4 ≤ X + Y)
  by_cases h : w64 ^ 4 ≤ X + Y <;> simp [h]

set_option maxHeartbeats 400000 in
theorem add_any (X Y : Nat) (hX : X < top) (hY : Y < top) (w : World) :
    Calls Try.prog 46 #[.agg #[.int .u64 (wd (X) 0), .int .u64 (wd (X) 1), .int .u64 (wd (X) 2), .int .u64 (wd (X) 3)], .agg #[.int .u64 (wd (Y) 0), .int .u64 (wd (Y) 1), .int .u64 (wd (Y) 2), .int .u64 (wd (Y) 3)]] w fun e w' =>
      e = .returned (.tuple #[.agg #[.int .u64 (wd (X + Y) 0), .int .u64 (wd (X + Y) 1), .int .u64 (wd (X + Y) 2), .int .u64 (wd (X + Y) 3)], .bool (decide (top ≤ X + Y))]) ∧ Below w.heap.size w w' := by
  have h29 := fun (k : Nat) (W : World) => add64_at X Y k W
  go_enter Try.func46, Try.ntmps46
  go_wp2
  go_loopw [7, 9] (fun c i wr => ∃ k : Nat, k ≤ 4 ∧ i = .int .i64 k ∧ c = .int .u64 (cyI X Y k) ∧ wr.rowIs w.heap.size 24 4 (fun j => .int .u64 (wd X j))
      ∧ wr.rowIs (w.heap.size + 1) 24 4 (fun j => .int .u64 (wd Y j)) ∧ wr.rowIs (w.heap.size + 1 + 1) 24 4 (fun _ => .int .u64 0)
      ∧ wr.rowIs (w.heap.size + 1 + 1 + 1) 24 4 (fun j => .int .u64 (if j < k then wd (X + Y) j else 0)) ∧ Below w.heap.size w wr)
    (fun _ i _ => 4 - (intOf i).toNat)
  case atStart => exact ⟨0, by omega, rfl, by simp [cyI, cy_zero], (((row_new (n := 4) (by simp) rfl (arr4 fun j => .int .u64 (wd X j))).alloc _).alloc _).alloc _, ((row_new (n := 4) (by simp) rfl (arr4 fun j => .int .u64 (wd Y j))).alloc _).alloc _, (row_new (n := 4) (by simp) rfl (arr4 fun _ => .int .u64 0)).alloc _, row_new (n := 4) (by simp) rfl (arr4 fun _ => .int .u64 0), ((((Below.refl _ _).alloc (by simp) _).alloc (by simp) _).alloc (by simp; omega) _).alloc (by simp; omega) _⟩
  case round =>
    obtain ⟨k, hk, rfl, rfl, hRX, hRY, hRZ, hRS, hbel⟩ := hrel
    by_cases hlt : k < 4
    · have c1 := hRX.cell hlt
      have c2 := hRY.cell hlt
      have c3 := hRS.cell hlt
      have f3 := hRS.frozen k
      go_wp2
      go_region_with (fail)
      all_goals
        go_wp2
        go_roundw
        case rel => exact ⟨k + 1, by omega, by go_num, rfl, (row_far hRX (by omega) _).drew, (row_far hRY (by omega) _).drew, (row_far hRZ (by omega) _).drew, ((hRS.set k _).congr (row_step hlt)).drew, (below_set hbel (by omega) _).drew⟩
        case measure => simp [intOf]; omega
    · obtain rfl : k = 4 := by omega
      obtain ⟨c0, c1, c2, c3⟩ := row_c4 hRS
      obtain ⟨d0, d1, d2, d3⟩ := row_c4 hRZ
      obtain ⟨f0, f1, f2, f3⟩ := row_f4 hRZ
      simp only [show (0 : Nat) < 4 from by omega, show (1 : Nat) < 4 from by omega, show (2 : Nat) < 4 from by omega, show (3 : Nat) < 4 from by omega, if_true] at c0 c1 c2 c3
      clear hRX hRY hRS
      have hz := cyI_top hX hY
      go_wp2
      refine bodyPost_ret (results_cell_tmp2 rfl _ _ (w.heap.size + 1 + 1) 24 #[.int .u64 (wd (X + Y) 0), .int .u64 (wd (X + Y) 1), .int .u64 (wd (X + Y) 2), .int .u64 (wd (X + Y) 3)] (0, 0) 4 22 rfl (blk4 (put4 hRZ fun j => .int .u64 (wd (X + Y) j))) Try.underlying24 (by kernel_rfl)) rfl ⟨?_, below_put4 hbel (by omega) _ _ _ _⟩
      rfl

/-- limb.Add of two numbers: the sum modulo 2^256, and whether it goes over. -/
theorem add_calls (X Y : Nat) (hX : X < top) (hY : Y < top) (w : World) :
    Calls Try.prog 46 #[.agg #[.int .u64 (wd (X) 0), .int .u64 (wd (X) 1), .int .u64 (wd (X) 2), .int .u64 (wd (X) 3)], .agg #[.int .u64 (wd (Y) 0), .int .u64 (wd (Y) 1), .int .u64 (wd (Y) 2), .int .u64 (wd (Y) 3)]] w fun e w' => e = .returned (.tuple #[.agg #[.int .u64 (wd ((X + Y) % top) 0), .int .u64 (wd ((X + Y) % top) 1), .int .u64 (wd ((X + Y) % top) 2), .int .u64 (wd ((X + Y) % top) 3)], .bool (decide (top ≤ X + Y))]) ∧ Below w.heap.size w w' := by
  rw [wd_mod _ 0 (by omega), wd_mod _ 1 (by omega), wd_mod _ 2 (by omega), wd_mod _ 3 (by omega)]
  exact add_any X Y hX hY w
end Go.Proofs.Ytkfomfpeangcdaa
