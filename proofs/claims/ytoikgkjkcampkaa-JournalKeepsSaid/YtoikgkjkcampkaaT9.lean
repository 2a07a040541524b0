/-
  clapperref08.Number: a number's bytes, from 0 on.
-/
import Derived.Test.YtoikgkjkcampkaaT1
import Derived.Great.BuildSlice
namespace Go.Proofs.Ytoikgkjkcampkaa
open Go.RowKit

/-- Its lowest i bytes, the highest of them first. -/
def lowB (n i : Nat) : List Nat := (List.range i).map fun j => n / 256 ^ (i - 1 - j) % 256
theorem lowB_length (n i : Nat) : (lowB n i).length = i := by simp [lowB]
theorem lowB_byt (n i : Nat) : Byt (lowB n i) := fun x hx => by
  simp only [lowB, List.mem_map] at hx
  obtain ⟨j, _, rfl⟩ := hx
  exact Nat.mod_lt _ (by decide)
theorem lowB_succ (n i : Nat) : lowB n (i + 1) = [n / 256 ^ i % 256] ++ lowB n i := by
  apply List.ext_getElem?
  intro j
  by_cases h0 : j = 0
  · subst h0; simp [lowB]
  · obtain ⟨k, rfl⟩ : ∃ k, j = k + 1 := ⟨j - 1, by omega⟩
    rw [List.singleton_append, List.getElem?_cons_succ]
    by_cases hk : k < i
    · simp [lowB, hk]
      congr 3
      omega
    · rw [List.getElem?_eq_none (by rw [lowB_length]; omega), List.getElem?_eq_none (by rw [lowB_length]; omega)]
theorem lowB_num {n : Nat} (h : n ≤ 9223372036854775807) : lowB n 8 = numB n := by
  unfold lowB numB
  rw [show ((n : Nat) : Int) % 18446744073709551616 = (n : Int) by omega]
  simp

theorem infoT9 : (Try.prog.info? 5).map (fun i => (i.zero, i.size, i.bytes)) = some (some (.int .u8 0), 1, 1) := by kernel_rfl

end Go.Proofs.Ytoikgkjkcampkaa
