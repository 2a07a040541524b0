/-
  limb.Sub: the difference.
-/
import Derived.Test.YtkfomfpeangcdaaRows
import Derived.Test.YtkfomfpeangcdaaMem
import Derived.WalkKit
import Derived.WalkSpells
import Derived.WalkLawsBesides
import Derived.Deep.LoopGhost
import Derived.Deep.RegionWith
namespace Go.Proofs.Ytkfomfpeangcdaa
open Go.RowKit

def sub64Entry : Array Value → Sem Value := fun args => do
  let (x, y, b) ← Extern.MathBitsCarry.three "Sub64" args
  pure (Extern.MathBitsCarry.pair ((x + Extern.MathBitsCarry.m64 - y - b) % Extern.MathBitsCarry.m64) (if x < y + b then 1 else 0))

theorem run_sub64 (x y b : Nat) (hb : b ≤ 1) (w : World) :
    (sub64Entry #[.int .u64 (x : Int), .int .u64 (y : Int), .int .u64 (b : Int)]).run Try.prog w =
      .ok (.tuple #[.int .u64 (((x + w64 - y - b) % w64 : Nat) : Int), .int .u64 ((if x < y + b then 1 else 0 : Nat) : Int)]) w := by
  have : b = 0 ∨ b = 1 := by omega
  rcases this with rfl | rfl <;> rfl

theorem sub64 (x y b : Nat) (hb : b ≤ 1) (w : World) :
    (callFunc 53 #[.int .u64 (x : Int), .int .u64 (y : Int), .int .u64 (b : Int)]).run Try.prog w = .ok (.value (.tuple #[.int .u64 (((x + w64 - y - b) % w64 : Nat) : Int), .int .u64 ((if x < y + b then 1 else 0 : Nat) : Int)])) w := by
  rw [run_callFunc_extern Try.func53 (by kernel_rfl) (by kernel_rfl) (by kernel_rfl) (e := sub64Entry) (by kernel_rfl), run_sub64 x y b hb]
  rfl

/-- The borrow, as the program holds it. -/
def bwI (X Y i : Nat) : Int := (bw w64 X Y i : Nat)
theorem sub64_at (X Y k : Nat) (hk : k < 4) (hY : Y ≤ top) (w : World) :
    (callFunc 53 #[.int .u64 (wd X k), .int .u64 (wd Y k), .int .u64 (bwI X Y k)]).run Try.prog w = .ok (.value (.tuple #[.int .u64 (wd (X + top - Y) k), .int .u64 (bwI X Y (k + 1))])) w := by
  unfold wd bwI
  rw [sub64 _ _ _ (bw_le w64 X Y k)]
  unfold top at hY ⊢
  rw [bw_succ w64_pos, dg_sub w64_pos X Y 4 k hk hY]

theorem bwI_top {X Y : Nat} (hX : X < top) (hY : Y < top) : (bwI X Y 4 != 0) = decide (X < Y) := by
  unfold bwI
  rw [bw_top (n := 4) hX hY]
  by_cases h : X < Y <;> simp [h]

set_option maxHeartbeats 400000 in
theorem sub_any (X Y : Nat) (hX : X < top) (hY : Y < top) (w : World) :
    Calls Try.prog 43 #[.agg #[.int .u64 (wd (X) 0), .int .u64 (wd (X) 1), .int .u64 (wd (X) 2), .int .u64 (wd (X) 3)], .agg #[.int .u64 (wd (Y) 0), .int .u64 (wd (Y) 1), .int .u64 (wd (Y) 2), .int .u64 (wd (Y) 3)]] w fun e w' =>
      e = .returned (.tuple #[.agg #[.int .u64 (wd (X + top - Y) 0), .int .u64 (wd (X + top - Y) 1), .int .u64 (wd (X + top - Y) 2), .int .u64 (wd (X + top - Y) 3)], .bool (decide (X < Y))]) ∧ Below w.heap.size w w' := by
  go_enter Try.func43, Try.ntmps43
  go_wp2
  go_loopw [7, 9] (fun c i wr => ∃ k : Nat, k ≤ 4 ∧ i = .int .i64 k ∧ c = .int .u64 (bwI X Y k) ∧ wr.rowIs w.heap.size 24 4 (fun j => .int .u64 (wd X j))
      ∧ wr.rowIs (w.heap.size + 1) 24 4 (fun j => .int .u64 (wd Y j)) ∧ wr.rowIs (w.heap.size + 1 + 1) 24 4 (fun _ => .int .u64 0)
      ∧ wr.rowIs (w.heap.size + 1 + 1 + 1) 24 4 (fun j => .int .u64 (if j < k then wd (X + top - Y) j else 0)) ∧ Below w.heap.size w wr)
    (fun _ i _ => 4 - (intOf i).toNat)
  case atStart => exact ⟨0, by omega, rfl, by simp [bwI, bw_zero], (((row_new (n := 4) (by simp) rfl (arr4 fun j => .int .u64 (wd X j))).alloc _).alloc _).alloc _, ((row_new (n := 4) (by simp) rfl (arr4 fun j => .int .u64 (wd Y j))).alloc _).alloc _, (row_new (n := 4) (by simp) rfl (arr4 fun _ => .int .u64 0)).alloc _, row_new (n := 4) (by simp) rfl (arr4 fun _ => .int .u64 0), ((((Below.refl _ _).alloc (by simp) _).alloc (by simp) _).alloc (by simp; omega) _).alloc (by simp; omega) _⟩
  case round =>
    obtain ⟨k, hk, rfl, rfl, hRX, hRY, hRZ, hRS, hbel⟩ := hrel
    by_cases hlt : k < 4
    · have c1 := hRX.cell hlt
      have c2 := hRY.cell hlt
      have c3 := hRS.cell hlt
      have f3 := hRS.frozen k
      have h30 := fun (W : World) => sub64_at X Y k hlt (Nat.le_of_lt hY) W
      go_wp2
      go_region_with (fail)
      all_goals
        go_wp2
        go_roundw
        case rel => exact ⟨k + 1, by omega, by go_num, rfl, (row_far hRX (by omega) _).drew, (row_far hRY (by omega) _).drew, (row_far hRZ (by omega) _).drew, ((hRS.set k _).congr (row_step hlt)).drew, (below_set hbel (by omega) _).drew⟩
        case measure => simp [intOf]; omega
    · obtain rfl : k = 4 := by omega
      obtain ⟨c0, c1, c2, c3⟩ := row_c4 hRS
      obtain ⟨d0, d1, d2, d3⟩ := row_c4 hRZ
      obtain ⟨f0, f1, f2, f3⟩ := row_f4 hRZ
      simp only [show (0 : Nat) < 4 from by omega, show (1 : Nat) < 4 from by omega, show (2 : Nat) < 4 from by omega, show (3 : Nat) < 4 from by omega, if_true] at c0 c1 c2 c3
      clear hRX hRY hRS
      have hz := bwI_top hX hY
      go_wp2
      refine bodyPost_ret (results_cell_tmp2 rfl _ _ (w.heap.size + 1 + 1) 24 #[.int .u64 (wd (X + top - Y) 0), .int .u64 (wd (X + top - Y) 1), .int .u64 (wd (X + top - Y) 2), .int .u64 (wd (X + top - Y) 3)] (0, 0) 4 22 rfl (blk4 (put4 hRZ fun j => .int .u64 (wd (X + top - Y) j))) Try.underlying24 (by kernel_rfl)) rfl ⟨?_, below_put4 hbel (by omega) _ _ _ _⟩
      rfl

/-- limb.Sub of two numbers: the difference modulo 2^256, and whether the second is above. -/
theorem sub_calls (X Y : Nat) (hX : X < top) (hY : Y < top) (w : World) :
    Calls Try.prog 43 #[.agg #[.int .u64 (wd (X) 0), .int .u64 (wd (X) 1), .int .u64 (wd (X) 2), .int .u64 (wd (X) 3)], .agg #[.int .u64 (wd (Y) 0), .int .u64 (wd (Y) 1), .int .u64 (wd (Y) 2), .int .u64 (wd (Y) 3)]] w fun e w' => e = .returned (.tuple #[.agg #[.int .u64 (wd ((X + top - Y) % top) 0), .int .u64 (wd ((X + top - Y) % top) 1), .int .u64 (wd ((X + top - Y) % top) 2), .int .u64 (wd ((X + top - Y) % top) 3)], .bool (decide (X < Y))]) ∧ Below w.heap.size w w' := by
  rw [wd_mod _ 0 (by omega), wd_mod _ 1 (by omega), wd_mod _ 2 (by omega), wd_mod _ 3 (by omega)]
  exact sub_any X Y hX hY w
end Go.Proofs.Ytkfomfpeangcdaa
