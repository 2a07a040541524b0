/-
  clapperref08.May: whether fields may be.
-/
import Derived.Test.YtoikgkjkcampkaaT1
namespace Go.Proofs.Ytoikgkjkcampkaa
open Go.RowKit

theorem mayFs_false {fs : List Fd} {i : Nat} (hi : i < fs.length) (h : ¬ okF fs i) : mayFs fs = false := decide_eq_false fun hh => h (hh.2 i hi)
theorem mayFs_len {fs : List Fd} (h : ∀ i, i < fs.length → okF fs i) : mayFs fs = decide (fs.length ≤ 64) := by
  unfold mayFs
  by_cases hc : fs.length ≤ 64
  · rw [decide_eq_true hc, decide_eq_true ⟨hc, h⟩]
  · rw [decide_eq_false hc, decide_eq_false fun hh => hc hh.1]

end Go.Proofs.Ytoikgkjkcampkaa
