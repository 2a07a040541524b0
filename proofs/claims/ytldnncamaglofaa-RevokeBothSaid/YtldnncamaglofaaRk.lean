/-
  revoke.inOrder: revoked serials compared; slices.SortFunc by it: sorted, the same ones.
-/
import Derived.Test.YtldnncamaglofaaRb
import Derived.Test.YtldnncamaglofaaRS
namespace Go.Proofs.Ytldnncamaglofaa
open Go.RowKit Go.Shelf Go.Lib Go.Sort

set_option maxRecDepth 100000 in
set_option maxHeartbeats 2000000 in
theorem isNaN_calls (a : Int) (w : World) : Calls Try.prog 58 #[.int .i64 a] w fun e w' => e = .returned (.bool false) ∧ w' = w := by
  have f1 : (a == a) = true := by simp
  go_enter Try.func58, Try.ntmps58
  go_wp2
  go_ret
  exact ⟨rfl, rfl⟩

set_option maxRecDepth 100000 in
set_option maxHeartbeats 2000000 in
theorem compare_calls (a b : Int) (w : World) : Calls Try.prog 46 #[.int .i64 a, .int .i64 b] w fun e w' => e = .returned (.int .i64 (ci a b)) ∧ w' = w := by
  have K := veil (fun x W => isNaN_calls x W)
  obtain ⟨R, hR⟩ : ∃ R, R = ci a b := ⟨_, rfl⟩
  rw [← hR]
  unfold ci at hR
  by_cases h1 : a < b
  · have hd1 : decide (a < b) = true := decide_eq_true h1
    rw [if_pos h1] at hR
    subst hR
    clear h1
    go_enter Try.func46, Try.ntmps46
    go_wp2_with (go_at_call 58; refine (K.out _ _).mono ?_; rintro e w' ⟨rfl, rfl⟩)
    go_ret
    exact ⟨rfl, rfl⟩
  · have hd1 : decide (a < b) = false := decide_eq_false h1
    rw [if_neg h1] at hR
    by_cases h2 : b < a
    · have hd2 : decide (b < a) = true := decide_eq_true h2
      rw [if_pos h2] at hR
      subst hR
      clear h1 h2
      go_enter Try.func46, Try.ntmps46
      go_wp2_with (go_at_call 58; refine (K.out _ _).mono ?_; rintro e w' ⟨rfl, rfl⟩)
      go_ret
      exact ⟨rfl, rfl⟩
    · have hd2 : decide (b < a) = false := decide_eq_false h2
      rw [if_neg h2] at hR
      subst hR
      clear h1 h2
      go_enter Try.func46, Try.ntmps46
      go_wp2_with (go_at_call 58; refine (K.out _ _).mono ?_; rintro e w' ⟨rfl, rfl⟩)
      go_ret
      exact ⟨rfl, rfl⟩

def orZ (a b : Int) : Int := if a = 0 then b else a
set_option maxRecDepth 100000 in
set_option maxHeartbeats 2000000 in
theorem or_calls (a b : Int) (g c : Nat) (w : World) (hg : w.heap[g]? = some (.cells #[.int .i64 a, .int .i64 b] 3 (0, 0))) : Calls Try.prog 45 #[.slice (some ⟨g, 0, none⟩) 2 c] w fun e w' => e = .returned (.int .i64 (orZ a b)) ∧ w' = w := by
  have c0 : w.cell? ⟨g, 0, none⟩ = some (.int .i64 a) := by rw [cell_of_row w g _ _ _ _ hg]; rfl
  have c1 : w.cell? ⟨g, 1, none⟩ = some (.int .i64 b) := by rw [cell_of_row w g _ _ _ _ hg]; rfl
  clear hg
  obtain ⟨R, hR⟩ : ∃ R, R = orZ a b := ⟨_, rfl⟩
  rw [← hR]
  unfold orZ at hR
  by_cases h1 : a = 0
  · rw [if_pos h1] at hR
    subst hR h1
    have f0 : ((0 : Int) == 0) = true := by decide
    by_cases h2 : R = 0
    · subst h2
      go_enter Try.func45, Try.ntmps45
      go_wp2
      refine wp_loop_rounds 3 ?_
      rw [rounds_succ]
      go_wp2
      rw [rounds_succ]
      go_wp2
      rw [rounds_succ]
      go_wp2
      go_ret
      exact ⟨rfl, rfl⟩
    · have f1 : (R == 0) = false := by simp [h2]
      clear h2
      go_enter Try.func45, Try.ntmps45
      go_wp2
      refine wp_loop_rounds 2 ?_
      rw [rounds_succ]
      go_wp2
      rw [rounds_succ]
      go_wp2
      go_ret
      exact ⟨rfl, rfl⟩
  · rw [if_neg h1] at hR
    subst hR
    have f1 : (R == 0) = false := by simp [h1]
    clear h1
    go_enter Try.func45, Try.ntmps45
    go_wp2
    refine wp_loop_rounds 1 ?_
    rw [rounds_succ]
    go_wp2
    go_ret
    exact ⟨rfl, rfl⟩
end Go.Proofs.Ytldnncamaglofaa
