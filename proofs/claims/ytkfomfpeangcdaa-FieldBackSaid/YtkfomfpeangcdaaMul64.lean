/-
  math/bits.Mul64, limb.mulAdd: the product of two words, and what is added to it.
-/
import Derived.Test.YtkfomfpeangcdaaAdd
namespace Go.Proofs.Ytkfomfpeangcdaa
open Go.RowKit

theorem ret_u2 {a b c d : Int} (h : a = b) (h2 : c = d) : Ending.returned (.tuple #[.int .u64 a, .int .u64 c]) = .returned (.tuple #[.int .u64 b, .int .u64 d]) := by rw [h, h2]

set_option maxHeartbeats 1000000 in
theorem mul64 (x y : Int) (hx : 0 ≤ x) (hx2 : x ≤ 18446744073709551615) (hy : 0 ≤ y) (hy2 : y ≤ 18446744073709551615) (w : World) :
    Calls Try.prog 47 #[.int .u64 x, .int .u64 y] w fun e w' => e = .returned (.tuple #[.int .u64 (x * y / 18446744073709551616), .int .u64 (x * y % 18446744073709551616)]) ∧ w' = w := by
  have key := mul64_arith x y hx (by omega) hy (by omega)
  have m1 := and_low32 x hx (by omega)
  have m2 := and_low32 y hy (by omega)
  have K := veil key
  have M1 := veil m1
  have M2 := veil m2
  clear key m1 m2
  go_enter Try.func47, Try.ntmps47
  go_wp2
  go_ret2
  refine ⟨ret_u2 ?_ ?_, rfl⟩
  · simp only [M1.out, M2.out, IntKind.wrap_u64]
    rw [and_low32 _ (by omega) (by omega)]
    exact K.out
  · exact IntKind.wrap_u64 _

theorem ma_bound {x y : Int} (hx : 0 ≤ x) (hx2 : x ≤ 18446744073709551615) (hy : 0 ≤ y) (hy2 : y ≤ 18446744073709551615) : 0 ≤ x * y ∧ x * y ≤ 340282366920938463426481119284349108225 := by
  refine ⟨Int.mul_nonneg hx hy, ?_⟩
  have := Int.mul_le_mul hx2 hy2 hy (by omega : (0 : Int) ≤ 18446744073709551615)
  omega

set_option maxHeartbeats 1000000 in
theorem mulAdd_calls (x y u v : Int) (hx : 0 ≤ x) (hx2 : x ≤ 18446744073709551615) (hy : 0 ≤ y) (hy2 : y ≤ 18446744073709551615) (hu : 0 ≤ u) (hu2 : u ≤ 18446744073709551615) (hv : 0 ≤ v) (hv2 : v ≤ 18446744073709551615) (w : World) :
    Calls Try.prog 49 #[.int .u64 x, .int .u64 y, .int .u64 u, .int .u64 v] w fun e w' => e = .returned (.tuple #[.int .u64 ((x * y + u + v) % 18446744073709551616), .int .u64 ((x * y + u + v) / 18446744073709551616)]) ∧ w' = w := by
  obtain ⟨p0, p1⟩ := ma_bound hx hx2 hy hy2
  obtain ⟨P, hP⟩ : ∃ P, P = x * y := ⟨_, rfl⟩
  rw [← hP] at p0 p1 ⊢
  obtain ⟨L, hL⟩ : ∃ L, L = P % 18446744073709551616 := ⟨_, rfl⟩
  obtain ⟨Hh, hH⟩ : ∃ Hh, Hh = P / 18446744073709551616 := ⟨_, rfl⟩
  obtain ⟨L1, hL1⟩ : ∃ L1, L1 = (L + u + 0) % 18446744073709551616 := ⟨_, rfl⟩
  obtain ⟨c1, hc1⟩ : ∃ c1, c1 = (L + u + 0) / 18446744073709551616 := ⟨_, rfl⟩
  obtain ⟨L2, hL2⟩ : ∃ L2, L2 = (L1 + v + 0) % 18446744073709551616 := ⟨_, rfl⟩
  obtain ⟨c2, hc2⟩ : ∃ c2, c2 = (L1 + v + 0) / 18446744073709551616 := ⟨_, rfl⟩
  have h29a := fun W => add64 L u 0 (by omega) hu (by omega) (by omega) W
  have h29b := fun W => add64 L1 v 0 (by omega) hv (by omega) (by omega) W
  rw [← hL1, ← hc1] at h29a
  rw [← hL2, ← hc2] at h29b
  have b1 : 0 ≤ Hh := by omega
  have b2 : 0 ≤ c1 := by omega
  have b3 : 0 ≤ c2 := by omega
  have b4 : Hh + c1 ≤ 18446744073709551615 := by omega
  have b5 : Hh + c1 + c2 ≤ 18446744073709551615 := by omega
  have e1 : (P + u + v) % 18446744073709551616 = L2 := by omega
  have e2 : (P + u + v) / 18446744073709551616 = Hh + c1 + c2 := by omega
  have hM := fun W => mul64 x y hx hx2 hy hy2 W
  rw [← hP, ← hL, ← hH] at hM
  have HM := veil hM
  have E := veil (And.intro e1 e2)
  clear hM e1 e2 hP hL hH hL1 hc1 hL2 hc2 p0 p1 hx hx2 hy hy2 hu hu2 hv hv2
  go_enter Try.func49, Try.ntmps49
  go_wp2_with (go_at_call 47; refine (HM.out _).mono ?_; rintro e w' ⟨rfl, rfl⟩)
  go_ret2
  rw [E.out.1, E.out.2]
  exact ⟨rfl, rfl⟩
end Go.Proofs.Ytkfomfpeangcdaa
