/-
  What limb's functions answer, the answer a letter with an equation.
-/
import Derived.Test.YtkfomfpeangcdaaAdd
import Derived.Test.YtkfomfpeangcdaaSub
import Derived.Test.YtkfomfpeangcdaaCmp
import Derived.Test.YtkfomfpeangcdaaHalf
import Derived.Test.YtkfomfpeangcdaaBit
import Derived.Test.YtkfomfpeangcdaaLen
import Derived.Test.YtkfomfpeangcdaaMul
namespace Go.Proofs.Ytkfomfpeangcdaa
open Go.RowKit

theorem kadd (X Y Z : Nat) (u : Bool) (h : (X + Y) % top = Z) (h2 : decide (top ≤ X + Y) = u) (hX : X < top) (hY : Y < top) (w : World) :
    Calls Try.prog 46 #[.agg #[.int .u64 (wd (X) 0), .int .u64 (wd (X) 1), .int .u64 (wd (X) 2), .int .u64 (wd (X) 3)], .agg #[.int .u64 (wd (Y) 0), .int .u64 (wd (Y) 1), .int .u64 (wd (Y) 2), .int .u64 (wd (Y) 3)]] w fun e w' => e = .returned (.tuple #[.agg #[.int .u64 (wd (Z) 0), .int .u64 (wd (Z) 1), .int .u64 (wd (Z) 2), .int .u64 (wd (Z) 3)], .bool u]) ∧ Below w.heap.size w w' := by
  subst h; subst h2; exact add_calls X Y hX hY w
theorem ksub (X Y Z : Nat) (u : Bool) (h : (X + top - Y) % top = Z) (h2 : decide (X < Y) = u) (hX : X < top) (hY : Y < top) (w : World) :
    Calls Try.prog 43 #[.agg #[.int .u64 (wd (X) 0), .int .u64 (wd (X) 1), .int .u64 (wd (X) 2), .int .u64 (wd (X) 3)], .agg #[.int .u64 (wd (Y) 0), .int .u64 (wd (Y) 1), .int .u64 (wd (Y) 2), .int .u64 (wd (Y) 3)]] w fun e w' => e = .returned (.tuple #[.agg #[.int .u64 (wd (Z) 0), .int .u64 (wd (Z) 1), .int .u64 (wd (Z) 2), .int .u64 (wd (Z) 3)], .bool u]) ∧ Below w.heap.size w w' := by
  subst h; subst h2; exact sub_calls X Y hX hY w
theorem kcmp (X Y : Nat) (c : Int) (h : cmpN X Y = c) (hX : X < top) (hY : Y < top) (w : World) :
    Calls Try.prog 28 #[.agg #[.int .u64 (wd (X) 0), .int .u64 (wd (X) 1), .int .u64 (wd (X) 2), .int .u64 (wd (X) 3)], .agg #[.int .u64 (wd (Y) 0), .int .u64 (wd (Y) 1), .int .u64 (wd (Y) 2), .int .u64 (wd (Y) 3)]] w fun e w' => e = .returned (.int .i64 c) ∧ Below w.heap.size w w' := by
  subst h; exact cmp_calls X Y hX hY w
theorem khalf (X Z : Nat) (h : X / 2 = Z) (hX : X < top) (w : World) :
    Calls Try.prog 41 #[.agg #[.int .u64 (wd (X) 0), .int .u64 (wd (X) 1), .int .u64 (wd (X) 2), .int .u64 (wd (X) 3)]] w fun e w' => e = .returned (.agg #[.int .u64 (wd (Z) 0), .int .u64 (wd (Z) 1), .int .u64 (wd (Z) 2), .int .u64 (wd (Z) 3)]) ∧ Below w.heap.size w w' := by
  subst h; exact half_calls X hX w
theorem kbit (X n : Nat) (b : Bool) (h : bit X n = b) (hn : n < 256) (w : World) :
    Calls Try.prog 27 #[.agg #[.int .u64 (wd (X) 0), .int .u64 (wd (X) 1), .int .u64 (wd (X) 2), .int .u64 (wd (X) 3)], .int .i64 (n : Int)] w fun e w' => e = .returned (.bool b) ∧ Below w.heap.size w w' := by
  subst h; exact bit_in X n hn w
theorem kbit0 (X : Nat) (b : Bool) (h : bit X 0 = b) (w : World) :
    Calls Try.prog 27 #[.agg #[.int .u64 (wd (X) 0), .int .u64 (wd (X) 1), .int .u64 (wd (X) 2), .int .u64 (wd (X) 3)], .int .i64 0] w fun e w' => e = .returned (.bool b) ∧ Below w.heap.size w w' :=
  kbit X 0 b h (by decide) w
theorem klen (X : Nat) (m : Int) (h : (bitLen X : Int) = m) (hX : X < top) (w : World) :
    Calls Try.prog 39 #[.agg #[.int .u64 (wd (X) 0), .int .u64 (wd (X) 1), .int .u64 (wd (X) 2), .int .u64 (wd (X) 3)]] w fun e w' => e = .returned (.int .i64 m) ∧ Below w.heap.size w w' := by
  subst h; exact len_calls X hX w
theorem kmul (X Y Z : Nat) (h : X * Y = Z) (hX : X < top) (hY : Y < top) (w : World) :
    Calls Try.prog 32 #[.agg #[.int .u64 (wd (X) 0), .int .u64 (wd (X) 1), .int .u64 (wd (X) 2), .int .u64 (wd (X) 3)], .agg #[.int .u64 (wd (Y) 0), .int .u64 (wd (Y) 1), .int .u64 (wd (Y) 2), .int .u64 (wd (Y) 3)]] w fun e w' => e = .returned (.agg #[.int .u64 (wd (Z) 0), .int .u64 (wd (Z) 1), .int .u64 (wd (Z) 2), .int .u64 (wd (Z) 3), .int .u64 (wd (Z) 4), .int .u64 (wd (Z) 5), .int .u64 (wd (Z) 6), .int .u64 (wd (Z) 7)]) ∧ Below w.heap.size w w' := by
  subst h; exact mul_calls X Y hX hY w
theorem cmp_ge (X Y : Nat) : (0 ≤ cmpN X Y) = ¬ X < Y := by
  unfold cmpN; split
  · simp; omega
  · split <;> simp <;> omega
theorem cmp_lt (X Y : Nat) : (cmpN X Y < 0) = (X < Y) := by
  unfold cmpN; split
  · simp; omega
  · split <;> simp <;> omega
theorem cmp_bd (X Y : Nat) : -1 ≤ cmpN X Y ∧ cmpN X Y ≤ 1 := by
  unfold cmpN; split
  · omega
  · split <;> omega
end Go.Proofs.Ytkfomfpeangcdaa
