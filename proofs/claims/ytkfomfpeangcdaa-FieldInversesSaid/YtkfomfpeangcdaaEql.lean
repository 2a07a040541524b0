/-
  '==' between two arrays of words.
-/
import Derived.Test.YtkfomfpeangcdaaRows
import Derived.Test.YtkfomfpeangcdaaMem
import Derived.WalkKit
import Derived.ChangeKeysEq
namespace Go.Proofs.Ytkfomfpeangcdaa
open Go.RowKit

theorem run_items (d : Nat) (xs ys : Array Value) (A B : Nat → Int) (w : World) : ∀ is : List Nat, (∀ i ∈ is, xs[i]? = some (.int .u64 (A i))) → (∀ i ∈ is, ys[i]? = some (.int .u64 (B i))) →
    (Op.eqItems (d + 1) 22 1 xs ys is).run Try.prog w = .ok (is.all fun i => A i == B i) w
  | [], _, _ => by simp [Op.eqItems]
  | i :: is, hx, hy => by
    have e1 := run_part_plain (P := Try.prog) w (e := 22) (by kernel_rfl) (xs := xs) (off := i * 1) (v := .int .u64 (A i)) (by rw [Nat.mul_one]; exact hx i (by simp))
    have e2 := run_part_plain (P := Try.prog) w (e := 22) (by kernel_rfl) (xs := ys) (off := i * 1) (v := .int .u64 (B i)) (by rw [Nat.mul_one]; exact hy i (by simp))
    have e3 := run_equalIn_int (P := Try.prog) w d 22 .u64 .u64 (A i) (B i) Try.underlying22
    have ih := run_items d xs ys A B w is (fun j hj => hx j (by simp [hj])) (fun j hj => hy j (by simp [hj]))
    simp only [Op.eqItems, Sem.run_bind, e1, e2, e3, Result.andThen_ok]
    by_cases h : A i = B i
    · simp [h, ih]
    · simp [h]

theorem eql4 (f g : Nat → Int) (w : World) : (binOp .eql 24 (.agg #[.int .u64 (f 0), .int .u64 (f 1), .int .u64 (f 2), .int .u64 (f 3)]) (.agg #[.int .u64 (g 0), .int .u64 (g 1), .int .u64 (g 2), .int .u64 (g 3)])).run Try.prog w = .ok (.bool ((List.range 4).all fun i => f i == g i)) w := by
  obtain ⟨i, hi⟩ : ∃ i, Try.prog.info? 22 = some i := Option.isSome_iff_exists.1 (by kernel_rfl)
  have hc : Try.prog.cellsOf 22 = 1 := by kernel_rfl
  rw [run_eql_struct, run_equalIn_array (P := Try.prog) w 9999 _ _ Try.underlying24 hi, hc]
  rw [run_items 9998 _ _ f g w _ (fun j hj => arr4 (fun j => .int .u64 (f j)) j (by simpa using hj)) (fun j hj => arr4 (fun j => .int .u64 (g j)) j (by simpa using hj))]
  rfl
theorem eql8 (f g : Nat → Int) (w : World) : (binOp .eql 26 (.agg #[.int .u64 (f 0), .int .u64 (f 1), .int .u64 (f 2), .int .u64 (f 3), .int .u64 (f 4), .int .u64 (f 5), .int .u64 (f 6), .int .u64 (f 7)])
    (.agg #[.int .u64 (g 0), .int .u64 (g 1), .int .u64 (g 2), .int .u64 (g 3), .int .u64 (g 4), .int .u64 (g 5), .int .u64 (g 6), .int .u64 (g 7)])).run Try.prog w = .ok (.bool ((List.range 8).all fun i => f i == g i)) w := by
  obtain ⟨i, hi⟩ : ∃ i, Try.prog.info? 22 = some i := Option.isSome_iff_exists.1 (by kernel_rfl)
  have hc : Try.prog.cellsOf 22 = 1 := by kernel_rfl
  rw [run_eql_struct, run_equalIn_array (P := Try.prog) w 9999 _ _ Try.underlying26 hi, hc]
  rw [run_items 9998 _ _ f g w _ (fun j hj => arr8 (fun j => .int .u64 (f j)) j (by simpa using hj)) (fun j hj => arr8 (fun j => .int .u64 (g j)) j (by simpa using hj))]
  rfl

theorem all_wd (n X Y : Nat) : ((List.range n).all fun i => wd X i == wd Y i) = decide (X % w64 ^ n = Y % w64 ^ n) := by
  rw [Bool.eq_iff_iff]
  simp only [List.all_eq_true, List.mem_range, beq_iff_eq, decide_eq_true_eq]
  constructor
  · intro h
    exact eq_of_dg w64_pos n fun i hi => by have := h i hi; unfold wd at this; omega
  · intro h i hi
    unfold wd
    rw [← dg_mod X n i hi, ← dg_mod Y n i hi, h]

/-- '==' between two numbers. -/
theorem eql_num {X Y : Nat} (hX : X < top) (hY : Y < top) (w : World) : (binOp .eql 24 (.agg #[.int .u64 (wd (X) 0), .int .u64 (wd (X) 1), .int .u64 (wd (X) 2), .int .u64 (wd (X) 3)]) (.agg #[.int .u64 (wd (Y) 0), .int .u64 (wd (Y) 1), .int .u64 (wd (Y) 2), .int .u64 (wd (Y) 3)])).run Try.prog w = .ok (.bool (decide (X = Y))) w := by
  have h := eql4 (wd X) (wd Y) w
  rw [all_wd 4 X Y] at h
  have e : (X % w64 ^ 4 = Y % w64 ^ 4) = (X = Y) := by rw [Nat.mod_eq_of_lt (show X < w64 ^ 4 from hX), Nat.mod_eq_of_lt (show Y < w64 ^ 4 from hY)]
  simpa [e] using h
theorem eql_num_same (X : Nat) (w : World) : (binOp .eql 24 (.agg #[.int .u64 (wd (X) 0), .int .u64 (wd (X) 1), .int .u64 (wd (X) 2), .int .u64 (wd (X) 3)]) (.agg #[.int .u64 (wd (X) 0), .int .u64 (wd (X) 1), .int .u64 (wd (X) 2), .int .u64 (wd (X) 3)])).run Try.prog w = .ok (.bool true) w := by
  have h := eql4 (wd X) (wd X) w
  rw [all_wd 4 X X] at h
  simpa using h
theorem eql_lit (a b c d : Int) (w : World) : (binOp .eql 24 (.agg #[.int .u64 a, .int .u64 b, .int .u64 c, .int .u64 d]) (.agg #[.int .u64 a, .int .u64 b, .int .u64 c, .int .u64 d])).run Try.prog w = .ok (.bool true) w := by
  have h := eql4 (fun i => match i with | 0 => a | 1 => b | 2 => c | _ => d) (fun i => match i with | 0 => a | 1 => b | 2 => c | _ => d) w
  simp only [BEq.rfl] at h
  exact h
theorem eql_wide_same (X : Nat) (w : World) : (binOp .eql 26 (.agg #[.int .u64 (wd (X) 0), .int .u64 (wd (X) 1), .int .u64 (wd (X) 2), .int .u64 (wd (X) 3), .int .u64 (wd (X) 4), .int .u64 (wd (X) 5), .int .u64 (wd (X) 6), .int .u64 (wd (X) 7)]) (.agg #[.int .u64 (wd (X) 0), .int .u64 (wd (X) 1), .int .u64 (wd (X) 2), .int .u64 (wd (X) 3), .int .u64 (wd (X) 4), .int .u64 (wd (X) 5), .int .u64 (wd (X) 6), .int .u64 (wd (X) 7)])).run Try.prog w = .ok (.bool true) w := by
  have h := eql8 (wd X) (wd X) w
  rw [all_wd 8 X X] at h
  simpa using h
end Go.Proofs.Ytkfomfpeangcdaa
