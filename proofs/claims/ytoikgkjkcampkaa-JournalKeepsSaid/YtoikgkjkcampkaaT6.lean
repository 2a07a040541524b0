/-
  clapperref08.Get: the fields of bytes.
-/
import Derived.Test.YtoikgkjkcampkaaT5
namespace Go.Proofs.Ytoikgkjkcampkaa
open Go.RowKit

theorem getFs_parse {bs : List Nat} : getFs bs = match parse bs with | some fs => if mayFs fs = true then some fs else none | none => none := by
  unfold getFs
  cases parse bs with
  | none => rfl
  | some fs => cases h : mayFs fs <;> simp [Option.filter, h]
theorem parse_len : ∀ (k : Nat) {bs : List Nat} {fs : List Fd}, bs.length ≤ k → parse bs = some fs → fs.length ≤ bs.length
  | _, [], fs, _, h => by
    rw [parse_nil] at h
    obtain rfl := Option.some.inj h
    exact Nat.le_refl _
  | _, [a], fs, _, h => by cases h
  | _, [a, b], fs, _, h => by cases h
  | 0, t :: h :: l :: r, fs, hk, _ => by simp at hk
  | k + 1, t :: h :: l :: r, fs, hk, he => by
    rw [parse_cons] at he
    split at he
    · cases hp : parse (r.drop (256 * h + l)) with
      | none => rw [hp] at he; cases he
      | some gs =>
        rw [hp] at he
        obtain rfl := Option.some.inj he
        simp only [List.length_cons] at hk ⊢
        have := parse_len k (by rw [List.length_drop]; omega) hp
        rw [List.length_drop] at this
        omega
    · cases he

end Go.Proofs.Ytoikgkjkcampkaa
