/-
  Slices cut anywhere.
-/
import Derived.Test.YtoikgkjkcampkaaRows
import Derived.WalkKit
import Derived.WalkSpells
import Derived.WalkLawsBesides
namespace Go.Proofs.Ytoikgkjkcampkaa
open Go.RowKit

/-- Where s[m:] begins. -/
def cutA (A : Option Addr) (m c : Nat) : Option Addr := if c = m then A else A.map (·.add (m * 1))
theorem cut_from (A : Option Addr) (r c m : Nat) (hm : m ≤ r) (w : World) : (Instr.sliceAt 23 (.slice A r c) (some (.int .i64 (m : Int))) none none).run Try.prog w = .ok (.slice (cutA A m c) (r - m) (c - m)) w := by
  have e2 : ((sizeOf (Try.prog.elem 23)).run Try.prog w) = .ok 1 w := by kernel_rfl
  rw [run_sliceAt_slice w 23 _ _ _ _ (by kernel_rfl), run_slice_l w 23 A r c (by kernel_rfl) .i64 (m : Int) (by omega) (by omega), e2]
  simp [sliced, Result.andThen, cutA]
theorem cut_to (A : Option Addr) (r c m : Nat) (hm : m ≤ c) (w : World) : (Instr.sliceAt 23 (.slice A r c) none (some (.int .i64 (m : Int))) none).run Try.prog w = .ok (.slice (cutA A 0 c) m c) w := by
  have e2 : ((sizeOf (Try.prog.elem 23)).run Try.prog w) = .ok 1 w := by kernel_rfl
  rw [run_sliceAt_slice w 23 _ _ _ _ (by kernel_rfl), run_slice_h w 23 A r c (by kernel_rfl) .i64 (m : Int) (by omega) (by omega), e2]
  simp [sliced, Result.andThen, cutA]
end Go.Proofs.Ytoikgkjkcampkaa
