/-
  clapperref02's minus, Add, Sub: what the document's answer for layer 2 makes of sums and differences.
-/
import Derived.Test.YtkfomfpeangcdaaG1
import Derived.Deep.CutRange
import Derived.Deep.RegionHeld3
namespace Go.Proofs.Ytkfomfpeangcdaa
open Go.RowKit

theorem dg_ones {B : Nat} (hB : 0 < B) (n i : Nat) (hi : i < n) : dg B (B ^ n - 1) i = B - 1 := by
  obtain ⟨d, rfl⟩ : ∃ d, n = i + (d + 1) := ⟨n - i - 1, by omega⟩
  have hp : 0 < B ^ i := Nat.pow_pos hB
  have hd : 0 < B ^ d := Nat.pow_pos hB
  have e : B ^ (i + (d + 1)) - 1 = (B ^ i - 1) + B ^ i * (B ^ (d + 1) - 1) := by
    rw [Nat.pow_add, Nat.mul_sub, Nat.mul_one]
    have : B ^ i ≤ B ^ i * B ^ (d + 1) := Nat.le_mul_of_pos_right _ (Nat.pow_pos hB)
    omega
  have e2 : B ^ (d + 1) - 1 = (B - 1) + B * (B ^ d - 1) := by
    rw [Nat.pow_succ, Nat.mul_comm, Nat.mul_sub, Nat.mul_one]
    have : B ≤ B * B ^ d := Nat.le_mul_of_pos_right _ hd
    omega
  unfold dg
  rw [e, Nat.add_mul_div_left _ _ hp, Nat.div_eq_of_lt (by omega), Nat.zero_add, e2, Nat.add_mul_mod_self_left, Nat.mod_eq_of_lt (by omega)]
theorem dg_comp {B : Nat} (hB : 0 < B) (Y n i : Nat) (hi : i < n) (hY : Y < B ^ n) : dg B (B ^ n - 1 - Y) i = B - 1 - dg B Y i := by
  have h := dg_sub hB (B ^ n - 1) Y n i hi (Nat.le_of_lt hY)
  have e : dg B (B ^ n - 1 + B ^ n - Y) i = dg B (B ^ n - 1 - Y) i := by
    rw [show B ^ n - 1 + B ^ n - Y = (B ^ n - 1 - Y) + B ^ n by omega, ← dg_mod _ n i hi, Nat.add_mod_right, dg_mod _ n i hi]
  have hb : bw B (B ^ n - 1) Y i = 0 := by
    have hp : 0 < B ^ i := Nat.pow_pos hB
    unfold bw
    have e2 : (B ^ n - 1) % B ^ i = B ^ i - 1 := by
      obtain ⟨d, rfl⟩ : ∃ d, n = i + d := ⟨n - i, by omega⟩
      have : B ^ i ≤ B ^ i * B ^ d := Nat.le_mul_of_pos_right _ (Nat.pow_pos hB)
      rw [Nat.pow_add, show B ^ i * B ^ d - 1 = (B ^ i - 1) + B ^ i * (B ^ d - 1) by rw [Nat.mul_sub, Nat.mul_one]; omega, Nat.add_mul_mod_self_left, Nat.mod_eq_of_lt (by omega)]
    have h1 := Nat.mod_lt Y hp
    rw [e2, if_neg (by omega)]
  have hl := dg_lt hB Y i
  rw [e, hb, dg_ones hB n i hi] at h
  rw [h, Nat.mod_eq_sub_mod (by omega), Nat.mod_eq_of_lt (by omega)]
  omega
theorem wd_comp {Y i : Nat} (hY : Y < top) (hi : i < 4) : 18446744073709551615 - wd Y i = wd (top - 1 - Y) i := by
  have h := dg_comp w64_pos Y 4 i hi hY
  have hl := dg_lt w64_pos Y i
  unfold wd top
  rw [h]
  unfold w64 at *
  omega
theorem minus_num {X Y : Nat} (hY : Y < top) : ((X + (top - 1 - Y)) % top + 1) % top = (X + top - Y) % top := by
  rw [Nat.mod_add_mod, show X + (top - 1 - Y) + 1 = X + top - Y by omega]

set_option maxHeartbeats 1000000 in
theorem minus_calls (X Y : Nat) (hX : X < top) (hY : Y < top) (w : World) :
    Calls Try.prog 36 #[.agg #[.int .u64 (wd (X) 0), .int .u64 (wd (X) 1), .int .u64 (wd (X) 2), .int .u64 (wd (X) 3)], .agg #[.int .u64 (wd (Y) 0), .int .u64 (wd (Y) 1), .int .u64 (wd (Y) 2), .int .u64 (wd (Y) 3)]] w fun e w' => e = .returned (.agg #[.int .u64 (wd ((X + top - Y) % top) 0), .int .u64 (wd ((X + top - Y) % top) 1), .int .u64 (wd ((X + top - Y) % top) 2), .int .u64 (wd ((X + top - Y) % top) 3)]) ∧ Below w.heap.size w w' := by
  obtain ⟨D, hD⟩ : ∃ D, D = (X + top - Y) % top := ⟨_, rfl⟩
  rw [← hD]
  have HD := veil hD
  clear hD
  go_enter Try.func36, Try.ntmps36
  go_wp2
  go_loopw [5] (fun i wr => ∃ k : Nat, k ≤ 4 ∧ i = .int .i64 k ∧ wr.rowIs w.heap.size 24 4 (fun j => .int .u64 (wd X j))
      ∧ wr.rowIs (w.heap.size + 1) 24 4 (fun j => .int .u64 (if j < k then wd (top - 1 - Y) j else wd Y j)) ∧ wr.rowIs (w.heap.size + 1 + 1) 24 4 (fun _ => .int .u64 0) ∧ Below w.heap.size w wr)
    (fun i _ => 4 - (intOf i).toNat)
  case atStart => exact ⟨0, by omega, rfl, ((row_new (n := 4) (by simp) rfl (arr4 fun j => .int .u64 (wd X j))).alloc _).alloc _, ((row_new (n := 4) (by simp) rfl (arr4 fun j => .int .u64 (wd Y j))).alloc _).congr (fun j _ => by simp), row_new (n := 4) (by simp) rfl (arr4 fun _ => .int .u64 0), (((Below.refl _ _).alloc (by simp) _).alloc (by simp) _).alloc (by simp; omega) _⟩
  case round =>
    obtain ⟨k, hk, rfl, hRX, hRY, hRZ, hbel⟩ := hrel
    by_cases hlt : k < 4
    · have c2 := hRY.cell hlt
      have f2 := hRY.frozen k
      rw [if_neg (by omega)] at c2
      have l1 := wd_lo Y k
      have u1 := wd_le Y k
      have HC := veil (wd_comp hY hlt)
      go_wp2
      go_roundw
      case rel =>
        rw [HC.out]
        exact ⟨k + 1, by omega, by go_num, row_far hRX (by omega) _, (hRY.set k _).congr (row_mix hlt), row_far hRZ (by omega) _, below_set hbel (by omega) _⟩
      case measure => simp [intOf]; omega
    · obtain rfl : k = 4 := by omega
      have hRY := hRY.congr (g := fun j => .int .u64 (wd (top - 1 - Y) j)) (fun j hj => by rw [if_pos hj])
      obtain ⟨c0, c1, c2, c3⟩ := row_c4 hRX
      obtain ⟨b0, b1, b2, b3⟩ := row_c4 hRY
      obtain ⟨S, hS⟩ : ∃ S, S = (X + (top - 1 - Y)) % top := ⟨_, rfl⟩
      have hSt : S < top := by rw [hS]; exact Nat.mod_lt _ top_pos
      have h1 := fun W => plus_calls X (top - 1 - Y) hX (by omega) W
      have h2 := fun W => plus_calls S 1 hSt (by decide) W
      rw [← hS] at h1
      rw [hS, minus_num hY, ← hS, ← HD.out] at h2
      have H1 := veil h1
      have o0 : wd 1 0 = 1 := by decide
      have o1 : wd 1 1 = 0 := by decide
      have o2 : wd 1 2 = 0 := by decide
      have o3 : wd 1 3 = 0 := by decide
      rw [o0, o1, o2, o3] at h2
      have H2 := veil h2
      clear h1 h2 hS o0 o1 o2 o3
      go_wp2_with fail
      refine (H1.out _).mono ?_
      rintro e w3 ⟨rfl, hb3⟩
      clear c0 c1 c2 c3 b0 b1 b2 b3
      have hRZ3 := row_below hRZ hb3 hRZ.lt
      have hB3 := hbel.trans (hb3.mono hbel.size)
      have hS4 : (w3.alloc (.cells #[.int .u64 (wd (S) 0), .int .u64 (wd (S) 1), .int .u64 (wd (S) 2), .int .u64 (wd (S) 3)] 24)).rowIs w3.heap.size 24 4 (fun j => .int .u64 (wd S j)) := row_new (n := 4) rfl rfl (arr4 fun j => .int .u64 (wd S j))
      have hRZ4 := hRZ3.alloc (.cells #[.int .u64 (wd (S) 0), .int .u64 (wd (S) 1), .int .u64 (wd (S) 2), .int .u64 (wd (S) 3)] 24)
      have hB4 := hB3.alloc hB3.size (.cells #[.int .u64 (wd (S) 0), .int .u64 (wd (S) 1), .int .u64 (wd (S) 2), .int .u64 (wd (S) 3)] 24)
      have nz := hRZ3.lt
      clear hRX hRY hRZ hbel hb3 hRZ3 hB3
      go_wp2_with fail
      refine (H2.out _).mono ?_
      rintro e w5 ⟨rfl, hb5⟩
      have hS5 := row_below hS4 hb5 hS4.lt
      have hRZ5 := row_below hRZ4 hb5 hRZ4.lt
      have hB5 := hB4.trans (hb5.mono hB4.size)
      clear hS4 hRZ4 hB4 hb5
      obtain ⟨t0, t1, t2, t3⟩ := row_f4 hS5
      obtain ⟨v0, v1, v2, v3⟩ := row_c4 hS5
      go_upto_region 7 with (fail)
      have hTz := put4 hS5 (fun j => .int .u64 (wd D j))
      have hZz := row_far4 hRZ5 (Nat.ne_of_lt nz) (.int .u64 (wd D 0)) (.int .u64 (wd D 1)) (.int .u64 (wd D 2)) (.int .u64 (wd D 3))
      have hBz := below_put4 (b := w3.heap.size) hB5 (by omega) (.int .u64 (wd D 0)) (.int .u64 (wd D 1)) (.int .u64 (wd D 2)) (.int .u64 (wd D 3))
      clear v0 v1 v2 v3 t0 t1 t2 t3 hS5 hRZ5 hB5
      generalize ((((w5.setCell ⟨w3.heap.size, 0, none⟩ (.int .u64 (wd D 0))).setCell ⟨w3.heap.size, 1, none⟩ (.int .u64 (wd D 1))).setCell ⟨w3.heap.size, 2, none⟩ (.int .u64 (wd D 2))).setCell ⟨w3.heap.size, 3, none⟩ (.int .u64 (wd D 3))) = wz at *
      obtain ⟨p0, p1, p2, p3⟩ := row_c4 hTz
      obtain ⟨d0, d1, d2, d3⟩ := row_c4 hZz
      obtain ⟨f0, f1, f2, f3⟩ := row_f4 hZz
      go_wp2
      refine bodyPost_ret (results_cell_row rfl _ _ (w.heap.size + 1 + 1) 24 #[.int .u64 (wd (D) 0), .int .u64 (wd (D) 1), .int .u64 (wd (D) 2), .int .u64 (wd (D) 3)] (0, 0) _ rfl (blk4 (put4 hZz fun j => .int .u64 (wd D j))) Try.underlying24 rfl (by kernel_rfl)) rfl ⟨rfl, below_put4 hBz (by omega) _ _ _ _⟩

/-- The sum of two numbers below M, modulo M. -/
theorem gsum_num {X Y M : Nat} (hX : X < M) (hY : Y < M) (hM : M ≤ top) : (X + Y) % M = if top ≤ X + Y ∨ ¬ (X + Y) % top < M then ((X + Y) % top + top - M) % top else (X + Y) % top := by
  generalize top = t at *
  by_cases h : t ≤ X + Y
  · rw [if_pos (Or.inl h), Nat.mod_eq_sub_mod (show t ≤ X + Y from h), Nat.mod_eq_of_lt (show X + Y - t < t by omega), show X + Y - t + t - M = X + Y - M by omega, Nat.mod_eq_of_lt (show X + Y - M < t by omega)]
    rw [Nat.mod_eq_sub_mod (by omega), Nat.mod_eq_of_lt (by omega)]
  · rw [Nat.mod_eq_of_lt (show X + Y < t by omega)]
    by_cases h2 : X + Y < M
    · rw [if_neg (by omega), Nat.mod_eq_of_lt h2]
    · rw [if_pos (Or.inr h2), Nat.mod_eq_sub_mod (show M ≤ X + Y by omega), Nat.mod_eq_of_lt (show X + Y - M < M by omega), show X + Y + t - M = (X + Y - M) + t by omega, Nat.add_mod_right, Nat.mod_eq_of_lt (by omega)]
theorem plus_is (X Y Z : Nat) (u : Bool) (h : (X + Y) % top = Z) (h2 : decide (top ≤ X + Y) = u) (hX : X < top) (hY : Y < top) (w : World) :
    Calls Try.prog 35 #[.agg #[.int .u64 (wd (X) 0), .int .u64 (wd (X) 1), .int .u64 (wd (X) 2), .int .u64 (wd (X) 3)], .agg #[.int .u64 (wd (Y) 0), .int .u64 (wd (Y) 1), .int .u64 (wd (Y) 2), .int .u64 (wd (Y) 3)]] w fun e w' => e = .returned (.tuple #[.agg #[.int .u64 (wd (Z) 0), .int .u64 (wd (Z) 1), .int .u64 (wd (Z) 2), .int .u64 (wd (Z) 3)], .bool u]) ∧ Below w.heap.size w w' := by
  subst h; subst h2; exact plus_calls X Y hX hY w
theorem less_is (X Y : Nat) (u : Bool) (h : decide (X < Y) = u) (hX : X < top) (hY : Y < top) (w : World) :
    Calls Try.prog 33 #[.agg #[.int .u64 (wd (X) 0), .int .u64 (wd (X) 1), .int .u64 (wd (X) 2), .int .u64 (wd (X) 3)], .agg #[.int .u64 (wd (Y) 0), .int .u64 (wd (Y) 1), .int .u64 (wd (Y) 2), .int .u64 (wd (Y) 3)]] w fun e w' => e = .returned (.bool u) ∧ Below w.heap.size w w' := by
  subst h; exact less_calls X Y hX hY w
theorem minus_is (X Y Z : Nat) (h : (X + top - Y) % top = Z) (hX : X < top) (hY : Y < top) (w : World) :
    Calls Try.prog 36 #[.agg #[.int .u64 (wd (X) 0), .int .u64 (wd (X) 1), .int .u64 (wd (X) 2), .int .u64 (wd (X) 3)], .agg #[.int .u64 (wd (Y) 0), .int .u64 (wd (Y) 1), .int .u64 (wd (Y) 2), .int .u64 (wd (Y) 3)]] w fun e w' => e = .returned (.agg #[.int .u64 (wd (Z) 0), .int .u64 (wd (Z) 1), .int .u64 (wd (Z) 2), .int .u64 (wd (Z) 3)]) ∧ Below w.heap.size w w' := by
  subst h; exact minus_calls X Y hX hY w

end Go.Proofs.Ytkfomfpeangcdaa
