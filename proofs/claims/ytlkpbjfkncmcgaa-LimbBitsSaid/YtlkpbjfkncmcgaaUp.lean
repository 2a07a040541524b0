/-
  up: the document's example, and a sum that goes over.
-/
import Derived.Test.YtlkpbjfkncmcgaaOf
import Derived.Test.YtlkpbjfkncmcgaaAdd
import Derived.Test.YtlkpbjfkncmcgaaEql
namespace Go.Proofs.Ytlkpbjfkncmcgaa
open Go.RowKit

theorem of_one_zero (b : Nat) (w : World) (hb : b < w.heap.size) (h0 : w.cell? ⟨b, 0, none⟩ = some (.int .u8 1)) (h1 : w.cell? ⟨b, 1, none⟩ = some (.int .u8 0)) :
    Calls Try.prog 25 #[.slice (some ⟨b, 0, none⟩) 2 2] w fun e w' => e = .returned (.tuple #[.agg #[.int .u64 256, .int .u64 0, .int .u64 0, .int .u64 0], .nilIface]) ∧ Below w.heap.size w w' := by
  have h := of_some b 0 2 2 (fun j => if j = 0 then 1 else 0) (fun j => by split <;> omega) (by omega) w hb (fun j hj => by
    have : j = 0 ∨ j = 1 := by omega
    rcases this with rfl | rfl
    · exact h0
    · exact h1)
  have e : lev (fun k => if 2 - 1 - k = 0 then 1 else 0) 2 = 256 := by decide
  rw [e] at h
  have e0 : wd 256 0 = 256 := by decide
  have e1 : wd 256 1 = 0 := by decide
  have e2 : wd 256 2 = 0 := by decide
  have e3 : wd 256 3 = 0 := by decide
  rw [e0, e1, e2, e3] at h
  exact h

theorem add_up (w : World) :
    Calls Try.prog 11 #[.agg #[.int .u64 18446744073709551615, .int .u64 18446744073709551615, .int .u64 18446744073709551615, .int .u64 18446744073709551615], .agg #[.int .u64 1, .int .u64 0, .int .u64 0, .int .u64 0]] w
      fun e w' => e = .returned (.tuple #[.agg #[.int .u64 0, .int .u64 0, .int .u64 0, .int .u64 0], .bool true]) ∧ Below w.heap.size w w' := by
  have h := add_calls (top - 1) 1 (by decide) (by decide) w
  have a0 : wd (top - 1) 0 = 18446744073709551615 := by decide
  have a1 : wd (top - 1) 1 = 18446744073709551615 := by decide
  have a2 : wd (top - 1) 2 = 18446744073709551615 := by decide
  have a3 : wd (top - 1) 3 = 18446744073709551615 := by decide
  have b0 : wd 1 0 = 1 := by decide
  have b1 : wd 1 1 = 0 := by decide
  have b2 : wd 1 2 = 0 := by decide
  have b3 : wd 1 3 = 0 := by decide
  have e : (top - 1 + 1) % top = 0 := by decide
  have ht : decide (top ≤ top - 1 + 1) = true := by decide
  rw [a0, a1, a2, a3, b0, b1, b2, b3, e, ht] at h
  simp only [wd_zero] at h
  exact h

set_option maxHeartbeats 1000000 in
theorem up_calls (w : World) :
    Calls Try.prog 10 #[] w fun e w' => e = .returned (.bool true) ∧ Below w.heap.size w w' := by
  have k1 := fun W => eql_lit 256 0 0 0 W
  have k2 := fun W => eql_lit 0 0 0 0 W
  have HA : ∀ W, Hid (Calls Try.prog 11 #[.agg #[.int .u64 18446744073709551615, .int .u64 18446744073709551615, .int .u64 18446744073709551615, .int .u64 18446744073709551615], .agg #[.int .u64 1, .int .u64 0, .int .u64 0, .int .u64 0]] W
      fun e w' => e = .returned (.tuple #[.agg #[.int .u64 0, .int .u64 0, .int .u64 0, .int .u64 0], .bool true]) ∧ Below W.heap.size W w') := fun W => veil (add_up W)
  go_enter Try.func10, Try.ntmps10
  go_wp2_with fail
  refine (of_one_zero _ _ (by simp) (by simp) (by simp)).mono ?_
  rintro e w1 ⟨rfl, hb1⟩
  have hA : (w1.alloc (.cells #[.int .u64 256, .int .u64 0, .int .u64 0, .int .u64 0] 24)).rowIs w1.heap.size 24 4 (fun i => match i with | 0 => .int .u64 256 | _ => .int .u64 0) := row_new (n := 4) rfl rfl (arr4 fun i => match i with | 0 => .int .u64 256 | _ => .int .u64 0)
  go_wp2_with fail
  refine (HA _).out.mono ?_
  rintro e w2 ⟨rfl, hb2⟩
  have hA2 := row_below hA hb2 hA.lt
  obtain ⟨c0, c1, c2, c3⟩ := row_c4 hA2
  have s1 := hA2.lt
  have hB := (((Below.refl w.heap.size w).alloc (Nat.le_refl _) (.cells #[.int .u8 1, .int .u8 0] 5)).trans (hb1.mono (by simp)))
  have hB2 := (hB.alloc hB.size (.cells #[.int .u64 256, .int .u64 0, .int .u64 0, .int .u64 0] 24)).trans (hb2.mono (by have := hB.size; simp; omega))
  clear hA hA2 hb1 hb2
  go_wp2
  go_ret
  exact ⟨rfl, hB2.alloc hB2.size _⟩
end Go.Proofs.Ytlkpbjfkncmcgaa
