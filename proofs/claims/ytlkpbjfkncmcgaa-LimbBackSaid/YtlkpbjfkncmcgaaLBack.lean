/-
  LimbBack: for any two numbers: what was added is taken away again; of its bytes a number is made again; twice the half, and the lowest bit, are it.
  No condition.
-/
import Derived.Test.YtlkpbjfkncmcgaaBytes
import Derived.Test.YtlkpbjfkncmcgaaHalf
import Derived.Test.YtlkpbjfkncmcgaaLOrders
import Derived.Deep.CutRange
namespace Go.Proofs.Ytlkpbjfkncmcgaa
open Go.RowKit

theorem add_is (X Y Z : Nat) (u : Bool) (h : (X + Y) % top = Z) (h2 : decide (top ≤ X + Y) = u) (hX : X < top) (hY : Y < top) (w : World) :
    Calls Try.prog 11 #[.agg #[.int .u64 (wd (X) 0), .int .u64 (wd (X) 1), .int .u64 (wd (X) 2), .int .u64 (wd (X) 3)], .agg #[.int .u64 (wd (Y) 0), .int .u64 (wd (Y) 1), .int .u64 (wd (Y) 2), .int .u64 (wd (Y) 3)]] w fun e w' => e = .returned (.tuple #[.agg #[.int .u64 (wd (Z) 0), .int .u64 (wd (Z) 1), .int .u64 (wd (Z) 2), .int .u64 (wd (Z) 3)], .bool u]) ∧ Below w.heap.size w w' := by
  subst h; subst h2; exact add_calls X Y hX hY w
theorem sub_at (X Y Z : Nat) (u : Bool) (h : (X + top - Y) % top = Z) (h2 : decide (X < Y) = u) (hX : X < top) (hY : Y < top) (w : World) :
    Calls Try.prog 12 #[.agg #[.int .u64 (wd (X) 0), .int .u64 (wd (X) 1), .int .u64 (wd (X) 2), .int .u64 (wd (X) 3)], .agg #[.int .u64 (wd (Y) 0), .int .u64 (wd (Y) 1), .int .u64 (wd (Y) 2), .int .u64 (wd (Y) 3)]] w fun e w' => e = .returned (.tuple #[.agg #[.int .u64 (wd (Z) 0), .int .u64 (wd (Z) 1), .int .u64 (wd (Z) 2), .int .u64 (wd (Z) 3)], .bool u]) ∧ Below w.heap.size w w' := by
  subst h; subst h2; exact sub_calls X Y hX hY w
theorem add_one (X Z : Nat) (h : (X + 1) % top = Z) (h2 : decide (top ≤ X + 1) = false) (hX : X < top) (w : World) :
    Calls Try.prog 11 #[.agg #[.int .u64 (wd (X) 0), .int .u64 (wd (X) 1), .int .u64 (wd (X) 2), .int .u64 (wd (X) 3)], .agg #[.int .u64 1, .int .u64 0, .int .u64 0, .int .u64 0]] w fun e w' => e = .returned (.tuple #[.agg #[.int .u64 (wd (Z) 0), .int .u64 (wd (Z) 1), .int .u64 (wd (Z) 2), .int .u64 (wd (Z) 3)], .bool false]) ∧ Below w.heap.size w w' := by
  have h3 := add_is X 1 Z false h h2 hX (by decide) w
  have b0 : wd 1 0 = 1 := by decide
  have b1 : wd 1 1 = 0 := by decide
  have b2 : wd 1 2 = 0 := by decide
  have b3 : wd 1 3 = 0 := by decide
  rw [b0, b1, b2, b3] at h3
  exact h3

theorem back_sub {X Y : Nat} (hX : X < top) (hY : Y < top) : ((X + Y) % top + top - Y) % top = X ∧ decide ((X + Y) % top < Y) = decide (top ≤ X + Y) := by
  generalize top = t at *
  by_cases h : t ≤ X + Y
  · have e : (X + Y) % t = X + Y - t := by rw [Nat.mod_eq_sub_mod h, Nat.mod_eq_of_lt (by omega)]
    rw [e]
    refine ⟨?_, ?_⟩
    · rw [show X + Y - t + t - Y = X by omega, Nat.mod_eq_of_lt hX]
    · simp only [decide_eq_decide]; omega
  · have e : (X + Y) % t = X + Y := Nat.mod_eq_of_lt (by omega)
    rw [e]
    refine ⟨?_, ?_⟩
    · rw [show X + Y + t - Y = X + t by omega, Nat.add_mod_right, Nat.mod_eq_of_lt hX]
    · simp only [decide_eq_decide]; omega
theorem half_add {X : Nat} (hX : X < top) : (X / 2 + X / 2) % top = X / 2 + X / 2 ∧ decide (top ≤ X / 2 + X / 2) = false := by
  refine ⟨Nat.mod_eq_of_lt (by omega), ?_⟩
  simp only [decide_eq_false_iff_not]; omega
theorem bit_zero (X : Nat) : bit X 0 = (X % 2 == 1) := by unfold bit; simp
theorem half_odd {X : Nat} (hX : X < top) (h : bit X 0 = true) : (X / 2 + X / 2 + 1) % top = X ∧ decide (top ≤ X / 2 + X / 2 + 1) = false := by
  rw [bit_zero, beq_iff_eq] at h
  have e : X / 2 + X / 2 + 1 = X := by omega
  rw [e]
  exact ⟨Nat.mod_eq_of_lt hX, by simp only [decide_eq_false_iff_not]; omega⟩
theorem half_even {X : Nat} (h : bit X 0 = false) : X / 2 + X / 2 = X := by
  rw [bit_zero, beq_eq_false_iff_ne] at h
  omega
theorem lev_dg (X : Nat) (z : Nat → Nat) : ∀ i, (∀ k, k < i → z k = dg 256 X k) → lev z i = X % 256 ^ i
  | 0, _ => by simp [lev, Nat.mod_one]
  | i + 1, h => by
    show lev z i + z i * 256 ^ i = _
    rw [mod_succ, lev_dg X z i (fun k hk => h k (by omega)), h i (by omega), Nat.mul_comm]
theorem top_bytes : top = 256 ^ 32 := by unfold top; rw [w64_bytes, ← Nat.pow_mul]
theorem of_bytes (g X : Nat) (hX : X < top) (w : World) (hr : w.rowIs g 5 32 (fun j => .int .u8 (byv X (31 - j)))) :
    Calls Try.prog 25 #[.slice (some ⟨g, 0, none⟩) 32 32] w fun e w' => e = .returned (.tuple #[.agg #[.int .u64 (wd (X) 0), .int .u64 (wd (X) 1), .int .u64 (wd (X) 2), .int .u64 (wd (X) 3)], .nilIface]) ∧ Below w.heap.size w w' := by
  have h := of_some g 0 32 32 (fun j => dg 256 X (31 - j)) (fun j => dg_lt (by omega) X _) (by omega) w hr.lt (fun j hj => by rw [Nat.zero_add]; exact hr.cell hj)
  have e : lev (fun k => dg 256 X (31 - (32 - 1 - k))) 32 = X := by
    rw [lev_dg X _ 32 (fun k hk => by show dg 256 X (31 - (32 - 1 - k)) = _; rw [show 31 - (32 - 1 - k) = k by omega]), ← top_bytes, Nat.mod_eq_of_lt hX]
  rw [e] at h
  exact h

set_option maxHeartbeats 4000000 in
theorem back_false (X Y : Nat) (hX : X < top) (hY : Y < top) (hbit : bit X 0 = false) (w : World) :
    Calls Try.prog 7 #[.agg #[.int .u64 (wd (X) 0), .int .u64 (wd (X) 1), .int .u64 (wd (X) 2), .int .u64 (wd (X) 3)], .agg #[.int .u64 (wd (Y) 0), .int .u64 (wd (Y) 1), .int .u64 (wd (Y) 2), .int .u64 (wd (Y) 3)]] w fun e w' => e = .returned (.bool true) ∧ Below w.heap.size w w' := by
  have hA0 : ((w.alloc (.cells #[.int .u64 (wd (X) 0), .int .u64 (wd (X) 1), .int .u64 (wd (X) 2), .int .u64 (wd (X) 3)] 24)).alloc (.cells #[.int .u64 (wd (Y) 0), .int .u64 (wd (Y) 1), .int .u64 (wd (Y) 2), .int .u64 (wd (Y) 3)] 24)).rowIs w.heap.size 24 4 (fun j => .int .u64 (wd X j)) := (row_new (n := 4) (by simp) rfl (arr4 fun j => .int .u64 (wd X j))).alloc _
  have hY0 : ((w.alloc (.cells #[.int .u64 (wd (X) 0), .int .u64 (wd (X) 1), .int .u64 (wd (X) 2), .int .u64 (wd (X) 3)] 24)).alloc (.cells #[.int .u64 (wd (Y) 0), .int .u64 (wd (Y) 1), .int .u64 (wd (Y) 2), .int .u64 (wd (Y) 3)] 24)).rowIs (w.heap.size + 1) 24 4 (fun j => .int .u64 (wd Y j)) := row_new (n := 4) (by simp) rfl (arr4 fun j => .int .u64 (wd Y j))
  have hB0 : Below w.heap.size w ((w.alloc (.cells #[.int .u64 (wd (X) 0), .int .u64 (wd (X) 1), .int .u64 (wd (X) 2), .int .u64 (wd (X) 3)] 24)).alloc (.cells #[.int .u64 (wd (Y) 0), .int .u64 (wd (Y) 1), .int .u64 (wd (Y) 2), .int .u64 (wd (Y) 3)] 24)) := ((Below.refl _ _).alloc (by simp) _).alloc (by simp) _
  obtain ⟨S, hS⟩ : ∃ S, S = (X + Y) % top := ⟨_, rfl⟩
  obtain ⟨u, hu⟩ : ∃ u, u = decide (top ≤ X + Y) := ⟨_, rfl⟩
  have hSt : S < top := by rw [hS]; exact Nat.mod_lt _ top_pos
  have F1 := veil (show (X + Y) % top = S ∧ decide (top ≤ X + Y) = u from ⟨hS.symm, hu.symm⟩)
  have F2 := veil (show (S + top - Y) % top = X ∧ decide (S < Y) = u from by rw [hS, hu]; exact back_sub hX hY)
  have F3 := veil (half_add hX)
  have HBIT := veil hbit
  have hH : X / 2 < top := by omega
  have hT : X / 2 + X / 2 < top := by omega
  have k1 := fun W => eql_num_same X W
  clear hS hu hbit
  go_enter Try.func7, Try.ntmps7
  go_wp2_with fail
  refine (up_calls _).mono ?_
  rintro e w1 ⟨rfl, hb1⟩
  have hA1 := row_below hA0 hb1 hA0.lt
  have hY1 := row_below hY0 hb1 hY0.lt
  have hB1 := hB0.trans (hb1.mono hB0.size)
  clear hA0 hY0 hB0 hb1
  obtain ⟨Ac0, Ac1, Ac2, Ac3⟩ := row_c4 hA1
  obtain ⟨Yc0, Yc1, Yc2, Yc3⟩ := row_c4 hY1
  go_wp2_with fail
  refine (add_is X Y S u F1.out.1 F1.out.2 hX hY _).mono ?_
  rintro e w2 ⟨rfl, hb2⟩
  clear Ac0 Ac1 Ac2 Ac3 Yc0 Yc1 Yc2 Yc3
  have hA2 := row_below hA1 hb2 hA1.lt
  have hY2 := row_below hY1 hb2 hY1.lt
  have hB2 := hB1.trans (hb2.mono hB1.size)
  clear hA1 hY1 hB1 hb2
  have hS3 : (w2.alloc (.cells #[.int .u64 (wd (S) 0), .int .u64 (wd (S) 1), .int .u64 (wd (S) 2), .int .u64 (wd (S) 3)] 24)).rowIs w2.heap.size 24 4 (fun j => .int .u64 (wd (S) j)) := row_new (n := 4) rfl rfl (arr4 fun j => .int .u64 (wd (S) j))
  have hA3 := hA2.alloc (.cells #[.int .u64 (wd (S) 0), .int .u64 (wd (S) 1), .int .u64 (wd (S) 2), .int .u64 (wd (S) 3)] 24)
  have hY3 := hY2.alloc (.cells #[.int .u64 (wd (S) 0), .int .u64 (wd (S) 1), .int .u64 (wd (S) 2), .int .u64 (wd (S) 3)] 24)
  have hB3 := hB2.alloc hB2.size (.cells #[.int .u64 (wd (S) 0), .int .u64 (wd (S) 1), .int .u64 (wd (S) 2), .int .u64 (wd (S) 3)] 24)
  have zA3 := hA2.lt
  have zY3 := hY2.lt
  clear hA2 hY2 hB2
  clear zA3 zY3
  obtain ⟨Sc0, Sc1, Sc2, Sc3⟩ := row_c4 hS3
  obtain ⟨Yc0, Yc1, Yc2, Yc3⟩ := row_c4 hY3
  go_wp2_with fail
  refine (sub_at S Y X u F2.out.1 F2.out.2 hSt hY _).mono ?_
  rintro e w4 ⟨rfl, hb4⟩
  clear Sc0 Sc1 Sc2 Sc3 Yc0 Yc1 Yc2 Yc3
  have hA4 := row_below hA3 hb4 hA3.lt
  have hY4 := row_below hY3 hb4 hY3.lt
  have hS4 := row_below hS3 hb4 hS3.lt
  have hB4 := hB3.trans (hb4.mono hB3.size)
  clear hA3 hY3 hS3 hB3 hb4
  have hD5 : (w4.alloc (.cells #[.int .u64 (wd (X) 0), .int .u64 (wd (X) 1), .int .u64 (wd (X) 2), .int .u64 (wd (X) 3)] 24)).rowIs w4.heap.size 24 4 (fun j => .int .u64 (wd (X) j)) := row_new (n := 4) rfl rfl (arr4 fun j => .int .u64 (wd (X) j))
  have hA5 := hA4.alloc (.cells #[.int .u64 (wd (X) 0), .int .u64 (wd (X) 1), .int .u64 (wd (X) 2), .int .u64 (wd (X) 3)] 24)
  have hY5 := hY4.alloc (.cells #[.int .u64 (wd (X) 0), .int .u64 (wd (X) 1), .int .u64 (wd (X) 2), .int .u64 (wd (X) 3)] 24)
  have hS5 := hS4.alloc (.cells #[.int .u64 (wd (X) 0), .int .u64 (wd (X) 1), .int .u64 (wd (X) 2), .int .u64 (wd (X) 3)] 24)
  have hB5 := hB4.alloc hB4.size (.cells #[.int .u64 (wd (X) 0), .int .u64 (wd (X) 1), .int .u64 (wd (X) 2), .int .u64 (wd (X) 3)] 24)
  have zA5 := hA4.lt
  have zY5 := hY4.lt
  have zS5 := hS4.lt
  clear hA4 hY4 hS4 hB4
  clear zA5 zY5 zS5
  obtain ⟨Ac0, Ac1, Ac2, Ac3⟩ := row_c4 hA5
  go_wp2_with fail
  refine (bytes_calls X _).mono ?_
  rintro e w6 ⟨gb, rfl, hgb, hbytes, hb6⟩
  clear Ac0 Ac1 Ac2 Ac3
  have hA6 := row_below hA5 hb6 hA5.lt
  have hY6 := row_below hY5 hb6 hY5.lt
  have hS6 := row_below hS5 hb6 hS5.lt
  have hD6 := row_below hD5 hb6 hD5.lt
  have hB6 := hB5.trans (hb6.mono hB5.size)
  clear hA5 hY5 hS5 hD5 hB5 hb6
  go_wp2_with fail
  refine (of_bytes gb X hX _ hbytes).mono ?_
  rintro e w7 ⟨rfl, hb7⟩
  have hA7 := row_below hA6 hb7 hA6.lt
  have hY7 := row_below hY6 hb7 hY6.lt
  have hS7 := row_below hS6 hb7 hS6.lt
  have hD7 := row_below hD6 hb7 hD6.lt
  have hB7 := hB6.trans (hb7.mono hB6.size)
  clear hA6 hY6 hS6 hD6 hB6 hb7
  have hO8 : (w7.alloc (.cells #[.int .u64 (wd (X) 0), .int .u64 (wd (X) 1), .int .u64 (wd (X) 2), .int .u64 (wd (X) 3)] 24)).rowIs w7.heap.size 24 4 (fun j => .int .u64 (wd (X) j)) := row_new (n := 4) rfl rfl (arr4 fun j => .int .u64 (wd (X) j))
  have hA8 := hA7.alloc (.cells #[.int .u64 (wd (X) 0), .int .u64 (wd (X) 1), .int .u64 (wd (X) 2), .int .u64 (wd (X) 3)] 24)
  have hY8 := hY7.alloc (.cells #[.int .u64 (wd (X) 0), .int .u64 (wd (X) 1), .int .u64 (wd (X) 2), .int .u64 (wd (X) 3)] 24)
  have hS8 := hS7.alloc (.cells #[.int .u64 (wd (X) 0), .int .u64 (wd (X) 1), .int .u64 (wd (X) 2), .int .u64 (wd (X) 3)] 24)
  have hD8 := hD7.alloc (.cells #[.int .u64 (wd (X) 0), .int .u64 (wd (X) 1), .int .u64 (wd (X) 2), .int .u64 (wd (X) 3)] 24)
  have hB8 := hB7.alloc hB7.size (.cells #[.int .u64 (wd (X) 0), .int .u64 (wd (X) 1), .int .u64 (wd (X) 2), .int .u64 (wd (X) 3)] 24)
  have zA8 := hA7.lt
  have zY8 := hY7.lt
  have zS8 := hS7.lt
  have zD8 := hD7.lt
  clear hA7 hY7 hS7 hD7 hB7
  clear hbytes hgb
  clear zA8 zY8 zS8 zD8
  obtain ⟨Ac0, Ac1, Ac2, Ac3⟩ := row_c4 hA8
  go_wp2_with fail
  refine (half_calls X hX _).mono ?_
  rintro e w9 ⟨rfl, hb9⟩
  clear Ac0 Ac1 Ac2 Ac3
  have hA9 := row_below hA8 hb9 hA8.lt
  have hY9 := row_below hY8 hb9 hY8.lt
  have hS9 := row_below hS8 hb9 hS8.lt
  have hD9 := row_below hD8 hb9 hD8.lt
  have hO9 := row_below hO8 hb9 hO8.lt
  have hB9 := hB8.trans (hb9.mono hB8.size)
  clear hA8 hY8 hS8 hD8 hO8 hB8 hb9
  have hH10 : (w9.alloc (.cells #[.int .u64 (wd (X / 2) 0), .int .u64 (wd (X / 2) 1), .int .u64 (wd (X / 2) 2), .int .u64 (wd (X / 2) 3)] 24)).rowIs w9.heap.size 24 4 (fun j => .int .u64 (wd (X / 2) j)) := row_new (n := 4) rfl rfl (arr4 fun j => .int .u64 (wd (X / 2) j))
  have hA10 := hA9.alloc (.cells #[.int .u64 (wd (X / 2) 0), .int .u64 (wd (X / 2) 1), .int .u64 (wd (X / 2) 2), .int .u64 (wd (X / 2) 3)] 24)
  have hY10 := hY9.alloc (.cells #[.int .u64 (wd (X / 2) 0), .int .u64 (wd (X / 2) 1), .int .u64 (wd (X / 2) 2), .int .u64 (wd (X / 2) 3)] 24)
  have hS10 := hS9.alloc (.cells #[.int .u64 (wd (X / 2) 0), .int .u64 (wd (X / 2) 1), .int .u64 (wd (X / 2) 2), .int .u64 (wd (X / 2) 3)] 24)
  have hD10 := hD9.alloc (.cells #[.int .u64 (wd (X / 2) 0), .int .u64 (wd (X / 2) 1), .int .u64 (wd (X / 2) 2), .int .u64 (wd (X / 2) 3)] 24)
  have hO10 := hO9.alloc (.cells #[.int .u64 (wd (X / 2) 0), .int .u64 (wd (X / 2) 1), .int .u64 (wd (X / 2) 2), .int .u64 (wd (X / 2) 3)] 24)
  have hB10 := hB9.alloc hB9.size (.cells #[.int .u64 (wd (X / 2) 0), .int .u64 (wd (X / 2) 1), .int .u64 (wd (X / 2) 2), .int .u64 (wd (X / 2) 3)] 24)
  have zA10 := hA9.lt
  have zY10 := hY9.lt
  have zS10 := hS9.lt
  have zD10 := hD9.lt
  have zO10 := hO9.lt
  clear hA9 hY9 hS9 hD9 hO9 hB9
  clear zA10 zY10 zS10 zD10 zO10
  obtain ⟨Hc0, Hc1, Hc2, Hc3⟩ := row_c4 hH10
  go_wp2_with fail
  refine (add_is (X / 2) (X / 2) (X / 2 + X / 2) false F3.out.1 F3.out.2 hH hH _).mono ?_
  rintro e w11 ⟨rfl, hb11⟩
  clear Hc0 Hc1 Hc2 Hc3
  have hA11 := row_below hA10 hb11 hA10.lt
  have hY11 := row_below hY10 hb11 hY10.lt
  have hS11 := row_below hS10 hb11 hS10.lt
  have hD11 := row_below hD10 hb11 hD10.lt
  have hO11 := row_below hO10 hb11 hO10.lt
  have hH11 := row_below hH10 hb11 hH10.lt
  have hB11 := hB10.trans (hb11.mono hB10.size)
  clear hA10 hY10 hS10 hD10 hO10 hH10 hB10 hb11
  have hT12 : (w11.alloc (.cells #[.int .u64 (wd (X / 2 + X / 2) 0), .int .u64 (wd (X / 2 + X / 2) 1), .int .u64 (wd (X / 2 + X / 2) 2), .int .u64 (wd (X / 2 + X / 2) 3)] 24)).rowIs w11.heap.size 24 4 (fun j => .int .u64 (wd (X / 2 + X / 2) j)) := row_new (n := 4) rfl rfl (arr4 fun j => .int .u64 (wd (X / 2 + X / 2) j))
  have hA12 := hA11.alloc (.cells #[.int .u64 (wd (X / 2 + X / 2) 0), .int .u64 (wd (X / 2 + X / 2) 1), .int .u64 (wd (X / 2 + X / 2) 2), .int .u64 (wd (X / 2 + X / 2) 3)] 24)
  have hY12 := hY11.alloc (.cells #[.int .u64 (wd (X / 2 + X / 2) 0), .int .u64 (wd (X / 2 + X / 2) 1), .int .u64 (wd (X / 2 + X / 2) 2), .int .u64 (wd (X / 2 + X / 2) 3)] 24)
  have hS12 := hS11.alloc (.cells #[.int .u64 (wd (X / 2 + X / 2) 0), .int .u64 (wd (X / 2 + X / 2) 1), .int .u64 (wd (X / 2 + X / 2) 2), .int .u64 (wd (X / 2 + X / 2) 3)] 24)
  have hD12 := hD11.alloc (.cells #[.int .u64 (wd (X / 2 + X / 2) 0), .int .u64 (wd (X / 2 + X / 2) 1), .int .u64 (wd (X / 2 + X / 2) 2), .int .u64 (wd (X / 2 + X / 2) 3)] 24)
  have hO12 := hO11.alloc (.cells #[.int .u64 (wd (X / 2 + X / 2) 0), .int .u64 (wd (X / 2 + X / 2) 1), .int .u64 (wd (X / 2 + X / 2) 2), .int .u64 (wd (X / 2 + X / 2) 3)] 24)
  have hH12 := hH11.alloc (.cells #[.int .u64 (wd (X / 2 + X / 2) 0), .int .u64 (wd (X / 2 + X / 2) 1), .int .u64 (wd (X / 2 + X / 2) 2), .int .u64 (wd (X / 2 + X / 2) 3)] 24)
  have hB12 := hB11.alloc hB11.size (.cells #[.int .u64 (wd (X / 2 + X / 2) 0), .int .u64 (wd (X / 2 + X / 2) 1), .int .u64 (wd (X / 2 + X / 2) 2), .int .u64 (wd (X / 2 + X / 2) 3)] 24)
  have zA12 := hA11.lt
  have zY12 := hY11.lt
  have zS12 := hS11.lt
  have zD12 := hD11.lt
  have zO12 := hO11.lt
  have zH12 := hH11.lt
  clear hA11 hY11 hS11 hD11 hO11 hH11 hB11
  clear zA12 zY12 zS12 zD12 zO12 zH12
  obtain ⟨Ac0, Ac1, Ac2, Ac3⟩ := row_c4 hA12
  go_wp2_with fail
  refine (bit_is X 0 false HBIT.out (by omega) _).mono ?_
  rintro e w13 ⟨rfl, hb13⟩
  clear Ac0 Ac1 Ac2 Ac3
  have hA13 := row_below hA12 hb13 hA12.lt
  have hY13 := row_below hY12 hb13 hY12.lt
  have hS13 := row_below hS12 hb13 hS12.lt
  have hD13 := row_below hD12 hb13 hD12.lt
  have hO13 := row_below hO12 hb13 hO12.lt
  have hH13 := row_below hH12 hb13 hH12.lt
  have hT13 := row_below hT12 hb13 hT12.lt
  have hB13 := hB12.trans (hb13.mono hB12.size)
  clear hA12 hY12 hS12 hD12 hO12 hH12 hT12 hB12 hb13
  have e4 : decide (X / 2 + X / 2 = X) = true := by rw [half_even HBIT.out]; simp
  have k3 := fun W => eql_num (X := X / 2 + X / 2) (Y := X) hT hX W
  rw [e4] at k3
  clear e4
  obtain ⟨Ac0, Ac1, Ac2, Ac3⟩ := row_c4 hA13
  obtain ⟨Dc0, Dc1, Dc2, Dc3⟩ := row_c4 hD13
  obtain ⟨Oc0, Oc1, Oc2, Oc3⟩ := row_c4 hO13
  obtain ⟨Tc0, Tc1, Tc2, Tc3⟩ := row_c4 hT13
  go_wp2
  go_ret
  exact ⟨rfl, hB13⟩

set_option maxHeartbeats 4000000 in
theorem back_true (X Y : Nat) (hX : X < top) (hY : Y < top) (hbit : bit X 0 = true) (w : World) :
    Calls Try.prog 7 #[.agg #[.int .u64 (wd (X) 0), .int .u64 (wd (X) 1), .int .u64 (wd (X) 2), .int .u64 (wd (X) 3)], .agg #[.int .u64 (wd (Y) 0), .int .u64 (wd (Y) 1), .int .u64 (wd (Y) 2), .int .u64 (wd (Y) 3)]] w fun e w' => e = .returned (.bool true) ∧ Below w.heap.size w w' := by
  have hA0 : ((w.alloc (.cells #[.int .u64 (wd (X) 0), .int .u64 (wd (X) 1), .int .u64 (wd (X) 2), .int .u64 (wd (X) 3)] 24)).alloc (.cells #[.int .u64 (wd (Y) 0), .int .u64 (wd (Y) 1), .int .u64 (wd (Y) 2), .int .u64 (wd (Y) 3)] 24)).rowIs w.heap.size 24 4 (fun j => .int .u64 (wd X j)) := (row_new (n := 4) (by simp) rfl (arr4 fun j => .int .u64 (wd X j))).alloc _
  have hY0 : ((w.alloc (.cells #[.int .u64 (wd (X) 0), .int .u64 (wd (X) 1), .int .u64 (wd (X) 2), .int .u64 (wd (X) 3)] 24)).alloc (.cells #[.int .u64 (wd (Y) 0), .int .u64 (wd (Y) 1), .int .u64 (wd (Y) 2), .int .u64 (wd (Y) 3)] 24)).rowIs (w.heap.size + 1) 24 4 (fun j => .int .u64 (wd Y j)) := row_new (n := 4) (by simp) rfl (arr4 fun j => .int .u64 (wd Y j))
  have hB0 : Below w.heap.size w ((w.alloc (.cells #[.int .u64 (wd (X) 0), .int .u64 (wd (X) 1), .int .u64 (wd (X) 2), .int .u64 (wd (X) 3)] 24)).alloc (.cells #[.int .u64 (wd (Y) 0), .int .u64 (wd (Y) 1), .int .u64 (wd (Y) 2), .int .u64 (wd (Y) 3)] 24)) := ((Below.refl _ _).alloc (by simp) _).alloc (by simp) _
  obtain ⟨S, hS⟩ : ∃ S, S = (X + Y) % top := ⟨_, rfl⟩
  obtain ⟨u, hu⟩ : ∃ u, u = decide (top ≤ X + Y) := ⟨_, rfl⟩
  have hSt : S < top := by rw [hS]; exact Nat.mod_lt _ top_pos
  have F1 := veil (show (X + Y) % top = S ∧ decide (top ≤ X + Y) = u from ⟨hS.symm, hu.symm⟩)
  have F2 := veil (show (S + top - Y) % top = X ∧ decide (S < Y) = u from by rw [hS, hu]; exact back_sub hX hY)
  have F3 := veil (half_add hX)
  have HBIT := veil hbit
  have hH : X / 2 < top := by omega
  have hT : X / 2 + X / 2 < top := by omega
  have k1 := fun W => eql_num_same X W
  clear hS hu hbit
  go_enter Try.func7, Try.ntmps7
  go_wp2_with fail
  refine (up_calls _).mono ?_
  rintro e w1 ⟨rfl, hb1⟩
  have hA1 := row_below hA0 hb1 hA0.lt
  have hY1 := row_below hY0 hb1 hY0.lt
  have hB1 := hB0.trans (hb1.mono hB0.size)
  clear hA0 hY0 hB0 hb1
  obtain ⟨Ac0, Ac1, Ac2, Ac3⟩ := row_c4 hA1
  obtain ⟨Yc0, Yc1, Yc2, Yc3⟩ := row_c4 hY1
  go_wp2_with fail
  refine (add_is X Y S u F1.out.1 F1.out.2 hX hY _).mono ?_
  rintro e w2 ⟨rfl, hb2⟩
  clear Ac0 Ac1 Ac2 Ac3 Yc0 Yc1 Yc2 Yc3
  have hA2 := row_below hA1 hb2 hA1.lt
  have hY2 := row_below hY1 hb2 hY1.lt
  have hB2 := hB1.trans (hb2.mono hB1.size)
  clear hA1 hY1 hB1 hb2
  have hS3 : (w2.alloc (.cells #[.int .u64 (wd (S) 0), .int .u64 (wd (S) 1), .int .u64 (wd (S) 2), .int .u64 (wd (S) 3)] 24)).rowIs w2.heap.size 24 4 (fun j => .int .u64 (wd (S) j)) := row_new (n := 4) rfl rfl (arr4 fun j => .int .u64 (wd (S) j))
  have hA3 := hA2.alloc (.cells #[.int .u64 (wd (S) 0), .int .u64 (wd (S) 1), .int .u64 (wd (S) 2), .int .u64 (wd (S) 3)] 24)
  have hY3 := hY2.alloc (.cells #[.int .u64 (wd (S) 0), .int .u64 (wd (S) 1), .int .u64 (wd (S) 2), .int .u64 (wd (S) 3)] 24)
  have hB3 := hB2.alloc hB2.size (.cells #[.int .u64 (wd (S) 0), .int .u64 (wd (S) 1), .int .u64 (wd (S) 2), .int .u64 (wd (S) 3)] 24)
  have zA3 := hA2.lt
  have zY3 := hY2.lt
  clear hA2 hY2 hB2
  clear zA3 zY3
  obtain ⟨Sc0, Sc1, Sc2, Sc3⟩ := row_c4 hS3
  obtain ⟨Yc0, Yc1, Yc2, Yc3⟩ := row_c4 hY3
  go_wp2_with fail
  refine (sub_at S Y X u F2.out.1 F2.out.2 hSt hY _).mono ?_
  rintro e w4 ⟨rfl, hb4⟩
  clear Sc0 Sc1 Sc2 Sc3 Yc0 Yc1 Yc2 Yc3
  have hA4 := row_below hA3 hb4 hA3.lt
  have hY4 := row_below hY3 hb4 hY3.lt
  have hS4 := row_below hS3 hb4 hS3.lt
  have hB4 := hB3.trans (hb4.mono hB3.size)
  clear hA3 hY3 hS3 hB3 hb4
  have hD5 : (w4.alloc (.cells #[.int .u64 (wd (X) 0), .int .u64 (wd (X) 1), .int .u64 (wd (X) 2), .int .u64 (wd (X) 3)] 24)).rowIs w4.heap.size 24 4 (fun j => .int .u64 (wd (X) j)) := row_new (n := 4) rfl rfl (arr4 fun j => .int .u64 (wd (X) j))
  have hA5 := hA4.alloc (.cells #[.int .u64 (wd (X) 0), .int .u64 (wd (X) 1), .int .u64 (wd (X) 2), .int .u64 (wd (X) 3)] 24)
  have hY5 := hY4.alloc (.cells #[.int .u64 (wd (X) 0), .int .u64 (wd (X) 1), .int .u64 (wd (X) 2), .int .u64 (wd (X) 3)] 24)
  have hS5 := hS4.alloc (.cells #[.int .u64 (wd (X) 0), .int .u64 (wd (X) 1), .int .u64 (wd (X) 2), .int .u64 (wd (X) 3)] 24)
  have hB5 := hB4.alloc hB4.size (.cells #[.int .u64 (wd (X) 0), .int .u64 (wd (X) 1), .int .u64 (wd (X) 2), .int .u64 (wd (X) 3)] 24)
  have zA5 := hA4.lt
  have zY5 := hY4.lt
  have zS5 := hS4.lt
  clear hA4 hY4 hS4 hB4
  clear zA5 zY5 zS5
  obtain ⟨Ac0, Ac1, Ac2, Ac3⟩ := row_c4 hA5
  go_wp2_with fail
  refine (bytes_calls X _).mono ?_
  rintro e w6 ⟨gb, rfl, hgb, hbytes, hb6⟩
  clear Ac0 Ac1 Ac2 Ac3
  have hA6 := row_below hA5 hb6 hA5.lt
  have hY6 := row_below hY5 hb6 hY5.lt
  have hS6 := row_below hS5 hb6 hS5.lt
  have hD6 := row_below hD5 hb6 hD5.lt
  have hB6 := hB5.trans (hb6.mono hB5.size)
  clear hA5 hY5 hS5 hD5 hB5 hb6
  go_wp2_with fail
  refine (of_bytes gb X hX _ hbytes).mono ?_
  rintro e w7 ⟨rfl, hb7⟩
  have hA7 := row_below hA6 hb7 hA6.lt
  have hY7 := row_below hY6 hb7 hY6.lt
  have hS7 := row_below hS6 hb7 hS6.lt
  have hD7 := row_below hD6 hb7 hD6.lt
  have hB7 := hB6.trans (hb7.mono hB6.size)
  clear hA6 hY6 hS6 hD6 hB6 hb7
  have hO8 : (w7.alloc (.cells #[.int .u64 (wd (X) 0), .int .u64 (wd (X) 1), .int .u64 (wd (X) 2), .int .u64 (wd (X) 3)] 24)).rowIs w7.heap.size 24 4 (fun j => .int .u64 (wd (X) j)) := row_new (n := 4) rfl rfl (arr4 fun j => .int .u64 (wd (X) j))
  have hA8 := hA7.alloc (.cells #[.int .u64 (wd (X) 0), .int .u64 (wd (X) 1), .int .u64 (wd (X) 2), .int .u64 (wd (X) 3)] 24)
  have hY8 := hY7.alloc (.cells #[.int .u64 (wd (X) 0), .int .u64 (wd (X) 1), .int .u64 (wd (X) 2), .int .u64 (wd (X) 3)] 24)
  have hS8 := hS7.alloc (.cells #[.int .u64 (wd (X) 0), .int .u64 (wd (X) 1), .int .u64 (wd (X) 2), .int .u64 (wd (X) 3)] 24)
  have hD8 := hD7.alloc (.cells #[.int .u64 (wd (X) 0), .int .u64 (wd (X) 1), .int .u64 (wd (X) 2), .int .u64 (wd (X) 3)] 24)
  have hB8 := hB7.alloc hB7.size (.cells #[.int .u64 (wd (X) 0), .int .u64 (wd (X) 1), .int .u64 (wd (X) 2), .int .u64 (wd (X) 3)] 24)
  have zA8 := hA7.lt
  have zY8 := hY7.lt
  have zS8 := hS7.lt
  have zD8 := hD7.lt
  clear hA7 hY7 hS7 hD7 hB7
  clear hbytes hgb
  clear zA8 zY8 zS8 zD8
  obtain ⟨Ac0, Ac1, Ac2, Ac3⟩ := row_c4 hA8
  go_wp2_with fail
  refine (half_calls X hX _).mono ?_
  rintro e w9 ⟨rfl, hb9⟩
  clear Ac0 Ac1 Ac2 Ac3
  have hA9 := row_below hA8 hb9 hA8.lt
  have hY9 := row_below hY8 hb9 hY8.lt
  have hS9 := row_below hS8 hb9 hS8.lt
  have hD9 := row_below hD8 hb9 hD8.lt
  have hO9 := row_below hO8 hb9 hO8.lt
  have hB9 := hB8.trans (hb9.mono hB8.size)
  clear hA8 hY8 hS8 hD8 hO8 hB8 hb9
  have hH10 : (w9.alloc (.cells #[.int .u64 (wd (X / 2) 0), .int .u64 (wd (X / 2) 1), .int .u64 (wd (X / 2) 2), .int .u64 (wd (X / 2) 3)] 24)).rowIs w9.heap.size 24 4 (fun j => .int .u64 (wd (X / 2) j)) := row_new (n := 4) rfl rfl (arr4 fun j => .int .u64 (wd (X / 2) j))
  have hA10 := hA9.alloc (.cells #[.int .u64 (wd (X / 2) 0), .int .u64 (wd (X / 2) 1), .int .u64 (wd (X / 2) 2), .int .u64 (wd (X / 2) 3)] 24)
  have hY10 := hY9.alloc (.cells #[.int .u64 (wd (X / 2) 0), .int .u64 (wd (X / 2) 1), .int .u64 (wd (X / 2) 2), .int .u64 (wd (X / 2) 3)] 24)
  have hS10 := hS9.alloc (.cells #[.int .u64 (wd (X / 2) 0), .int .u64 (wd (X / 2) 1), .int .u64 (wd (X / 2) 2), .int .u64 (wd (X / 2) 3)] 24)
  have hD10 := hD9.alloc (.cells #[.int .u64 (wd (X / 2) 0), .int .u64 (wd (X / 2) 1), .int .u64 (wd (X / 2) 2), .int .u64 (wd (X / 2) 3)] 24)
  have hO10 := hO9.alloc (.cells #[.int .u64 (wd (X / 2) 0), .int .u64 (wd (X / 2) 1), .int .u64 (wd (X / 2) 2), .int .u64 (wd (X / 2) 3)] 24)
  have hB10 := hB9.alloc hB9.size (.cells #[.int .u64 (wd (X / 2) 0), .int .u64 (wd (X / 2) 1), .int .u64 (wd (X / 2) 2), .int .u64 (wd (X / 2) 3)] 24)
  have zA10 := hA9.lt
  have zY10 := hY9.lt
  have zS10 := hS9.lt
  have zD10 := hD9.lt
  have zO10 := hO9.lt
  clear hA9 hY9 hS9 hD9 hO9 hB9
  clear zA10 zY10 zS10 zD10 zO10
  obtain ⟨Hc0, Hc1, Hc2, Hc3⟩ := row_c4 hH10
  go_wp2_with fail
  refine (add_is (X / 2) (X / 2) (X / 2 + X / 2) false F3.out.1 F3.out.2 hH hH _).mono ?_
  rintro e w11 ⟨rfl, hb11⟩
  clear Hc0 Hc1 Hc2 Hc3
  have hA11 := row_below hA10 hb11 hA10.lt
  have hY11 := row_below hY10 hb11 hY10.lt
  have hS11 := row_below hS10 hb11 hS10.lt
  have hD11 := row_below hD10 hb11 hD10.lt
  have hO11 := row_below hO10 hb11 hO10.lt
  have hH11 := row_below hH10 hb11 hH10.lt
  have hB11 := hB10.trans (hb11.mono hB10.size)
  clear hA10 hY10 hS10 hD10 hO10 hH10 hB10 hb11
  have hT12 : (w11.alloc (.cells #[.int .u64 (wd (X / 2 + X / 2) 0), .int .u64 (wd (X / 2 + X / 2) 1), .int .u64 (wd (X / 2 + X / 2) 2), .int .u64 (wd (X / 2 + X / 2) 3)] 24)).rowIs w11.heap.size 24 4 (fun j => .int .u64 (wd (X / 2 + X / 2) j)) := row_new (n := 4) rfl rfl (arr4 fun j => .int .u64 (wd (X / 2 + X / 2) j))
  have hA12 := hA11.alloc (.cells #[.int .u64 (wd (X / 2 + X / 2) 0), .int .u64 (wd (X / 2 + X / 2) 1), .int .u64 (wd (X / 2 + X / 2) 2), .int .u64 (wd (X / 2 + X / 2) 3)] 24)
  have hY12 := hY11.alloc (.cells #[.int .u64 (wd (X / 2 + X / 2) 0), .int .u64 (wd (X / 2 + X / 2) 1), .int .u64 (wd (X / 2 + X / 2) 2), .int .u64 (wd (X / 2 + X / 2) 3)] 24)
  have hS12 := hS11.alloc (.cells #[.int .u64 (wd (X / 2 + X / 2) 0), .int .u64 (wd (X / 2 + X / 2) 1), .int .u64 (wd (X / 2 + X / 2) 2), .int .u64 (wd (X / 2 + X / 2) 3)] 24)
  have hD12 := hD11.alloc (.cells #[.int .u64 (wd (X / 2 + X / 2) 0), .int .u64 (wd (X / 2 + X / 2) 1), .int .u64 (wd (X / 2 + X / 2) 2), .int .u64 (wd (X / 2 + X / 2) 3)] 24)
  have hO12 := hO11.alloc (.cells #[.int .u64 (wd (X / 2 + X / 2) 0), .int .u64 (wd (X / 2 + X / 2) 1), .int .u64 (wd (X / 2 + X / 2) 2), .int .u64 (wd (X / 2 + X / 2) 3)] 24)
  have hH12 := hH11.alloc (.cells #[.int .u64 (wd (X / 2 + X / 2) 0), .int .u64 (wd (X / 2 + X / 2) 1), .int .u64 (wd (X / 2 + X / 2) 2), .int .u64 (wd (X / 2 + X / 2) 3)] 24)
  have hB12 := hB11.alloc hB11.size (.cells #[.int .u64 (wd (X / 2 + X / 2) 0), .int .u64 (wd (X / 2 + X / 2) 1), .int .u64 (wd (X / 2 + X / 2) 2), .int .u64 (wd (X / 2 + X / 2) 3)] 24)
  have zA12 := hA11.lt
  have zY12 := hY11.lt
  have zS12 := hS11.lt
  have zD12 := hD11.lt
  have zO12 := hO11.lt
  have zH12 := hH11.lt
  clear hA11 hY11 hS11 hD11 hO11 hH11 hB11
  have neA := zA12
  have neD := zD12
  have neO := zO12
  clear zA12 zY12 zS12 zD12 zO12 zH12
  obtain ⟨Ac0, Ac1, Ac2, Ac3⟩ := row_c4 hA12
  go_wp2_with fail
  refine (bit_is X 0 true HBIT.out (by omega) _).mono ?_
  rintro e w13 ⟨rfl, hb13⟩
  clear Ac0 Ac1 Ac2 Ac3
  have hA13 := row_below hA12 hb13 hA12.lt
  have hY13 := row_below hY12 hb13 hY12.lt
  have hS13 := row_below hS12 hb13 hS12.lt
  have hD13 := row_below hD12 hb13 hD12.lt
  have hO13 := row_below hO12 hb13 hO12.lt
  have hH13 := row_below hH12 hb13 hH12.lt
  have hT13 := row_below hT12 hb13 hT12.lt
  have hB13 := hB12.trans (hb13.mono hB12.size)
  clear hA12 hY12 hS12 hD12 hO12 hH12 hT12 hB12 hb13
  obtain ⟨Tc0, Tc1, Tc2, Tc3⟩ := row_c4 hT13
  have F4 := veil (half_odd hX HBIT.out)
  go_wp2_with fail
  refine (add_one (X / 2 + X / 2) X F4.out.1 F4.out.2 hT _).mono ?_
  rintro e w14 ⟨rfl, hb14⟩
  clear Tc0 Tc1 Tc2 Tc3
  have hA14 := row_below hA13 hb14 hA13.lt
  have hY14 := row_below hY13 hb14 hY13.lt
  have hS14 := row_below hS13 hb14 hS13.lt
  have hD14 := row_below hD13 hb14 hD13.lt
  have hO14 := row_below hO13 hb14 hO13.lt
  have hH14 := row_below hH13 hb14 hH13.lt
  have hT14 := row_below hT13 hb14 hT13.lt
  have hB14 := hB13.trans (hb14.mono hB13.size)
  clear hA13 hY13 hS13 hD13 hO13 hH13 hT13 hB13 hb14
  obtain ⟨t0, t1, t2, t3⟩ := row_f4 hT14
  obtain ⟨v0, v1, v2, v3⟩ := row_c4 hT14
  go_upto_region 9 with (fail)
  have hTz := put4 hT14 (fun j => .int .u64 (wd X j))
  have hAz := row_far4 hA14 (Nat.ne_of_lt neA) (.int .u64 (wd X 0)) (.int .u64 (wd X 1)) (.int .u64 (wd X 2)) (.int .u64 (wd X 3))
  have hDz := row_far4 hD14 (Nat.ne_of_lt neD) (.int .u64 (wd X 0)) (.int .u64 (wd X 1)) (.int .u64 (wd X 2)) (.int .u64 (wd X 3))
  have hOz := row_far4 hO14 (Nat.ne_of_lt neO) (.int .u64 (wd X 0)) (.int .u64 (wd X 1)) (.int .u64 (wd X 2)) (.int .u64 (wd X 3))
  have hBz := below_put4 (b := w11.heap.size) hB14 (Nat.le_of_lt neA) (.int .u64 (wd X 0)) (.int .u64 (wd X 1)) (.int .u64 (wd X 2)) (.int .u64 (wd X 3))
  clear v0 v1 v2 v3 t0 t1 t2 t3 hA14 hY14 hS14 hD14 hO14 hH14 hT14 hB14
  generalize ((((w14.setCell ⟨w11.heap.size, 0, none⟩ (.int .u64 (wd X 0))).setCell ⟨w11.heap.size, 1, none⟩ (.int .u64 (wd X 1))).setCell ⟨w11.heap.size, 2, none⟩ (.int .u64 (wd X 2))).setCell ⟨w11.heap.size, 3, none⟩ (.int .u64 (wd X 3))) = wz at *
  obtain ⟨Az0, Az1, Az2, Az3⟩ := row_c4 hAz
  obtain ⟨Dz0, Dz1, Dz2, Dz3⟩ := row_c4 hDz
  obtain ⟨Oz0, Oz1, Oz2, Oz3⟩ := row_c4 hOz
  obtain ⟨Tz0, Tz1, Tz2, Tz3⟩ := row_c4 hTz
  go_wp2
  go_ret
  exact ⟨rfl, hBz⟩

theorem back_walk (X Y : Nat) (hX : X < top) (hY : Y < top) (w : World) :
    Calls Try.prog 7 #[.agg #[.int .u64 (wd (X) 0), .int .u64 (wd (X) 1), .int .u64 (wd (X) 2), .int .u64 (wd (X) 3)], .agg #[.int .u64 (wd (Y) 0), .int .u64 (wd (Y) 1), .int .u64 (wd (Y) 2), .int .u64 (wd (Y) 3)]] w fun e w' => e = .returned (.bool true) ∧ Below w.heap.size w w' := by
  cases h : bit X 0 with
  | false => exact back_false X Y hX hY h w
  | true => exact back_true X Y hX hY h w

/-! ### the statement -/
section
open Go.ChangeShapes Go.WideShapes Go.ChangeAt
set_option maxRecDepth 100000 in
theorem LimbBack_lifted (os : Os) (started : os.Started) (H : Type) (enc : TypeId × Value → H) :
    ReturnsInHanded {} Try.checked os 7 .any (Rows.limbBackSpec.pre6 enc Try.prog Try.f7 Rows.limbBackRow.domain false) (Rows.limbBackSpec.post enc Try.prog Try.f7 false true false false) := by
  refine returnsInHanded_of_change (C := Try.checked) own started (by kernel_rfl) Try.func7
    (ChangeSpec.witness6 (enc := enc) (C := Try.checked) false ⟨#[], #[.agg #[.int .u64 0, .int .u64 0, .int .u64 0, .int .u64 0], .agg #[.int .u64 0, .int .u64 0, .int .u64 0, .int .u64 0]], []⟩ 8 (by kernel_rfl) (by kernel_rfl) (by kernel_rfl) (by kernel_rfl)) ?_
  intro W base args ds gs before hval0 hW _ _
  have hval : ∀ (j : Nat) t v, Try.f7.params[j]? = some t → args[j]? = some v → Value.okWide Try.prog W .any base t v := hval0
  have hW' := hW
  obtain ⟨p, q, hA0, hV, rfl, _, _⟩ := hW
  have hA : DataW.TrodAll enc Try.prog W 0 (fun _ => true) true Try.f7.params.toList args.toList ds p := hA0
  rw [Try.params7] at hA hval
  obtain ⟨v0, v1, d0, d1, p0, p1, rfl, rfl, rfl, h0, h1⟩ := trodAll_two hA
  obtain ⟨rfl, rfl⟩ := trodVars_none hV
  obtain ⟨X, hX, rfl, rfl, rfl⟩ := open_num (hval 0 24 v0 rfl rfl) h0
  obtain ⟨Y, hY, rfl, rfl, rfl⟩ := open_num (hval 1 24 v1 rfl rfl) h1
  clear hA0 hval0
  simp only [List.append_nil] at hW'
  refine (back_walk X Y hX hY W).mono fun e W' ⟨he, hb⟩ => ?_
  subst he
  exact ⟨_, rfl, _, _, _, [], [], [], hW', trodAll_mk1 (shut_bool Try.underlying4 true), trodAll_mk2 (shut_num W' 0 _ true X) (shut_num W' 0 _ true Y), rfl, hb.frame _, fun h => by cases h⟩

theorem LimbBack_over : Rows.limbBackRow.holds Try.pinned (OpenSpec.ofChange Rows.limbBackSpec) :=
  OpenClaim.holds_of_wide 7 Try.f7 rfl rfl rfl rfl rfl rfl rfl ⟨rfl, rfl, rfl, rfl, rfl⟩ rfl rfl rfl rfl rfl (by kernel_rfl) Try.func7 (by kernel_rfl)
    (of_decide_eq_true (by kernel_rfl)) (by unfold Func.isWrapper; rw [if_neg (of_decide_eq_false (by kernel_rfl))]; exact ⟨rfl, rfl⟩)
    (fun os started H enc _ => LimbBack_lifted os started H enc)

theorem LimbBack_holds : Rows.LimbBackSaid :=
  LimbBack_over
end

#print axioms LimbBack_holds
end Go.Proofs.Ytlkpbjfkncmcgaa
