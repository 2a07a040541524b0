/-
  Merged: G1 G2 G3 G4 G5 G8 G9.
-/
import Derived.Deep.CutRange
import Derived.Deep.RegionHeld3
import Derived.Test.YtppfcdpokgnpfaaZ1

/-
  clapperref02's add, plus, less, minus: words and numbers, as the document's answer for layer 2 reckons them.
-/
namespace Go.Proofs.Ytppfcdpokgnpfaa
open Go.RowKit

theorem ret_u2' {a b c d : Int} (h : a = b) (h2 : c = d) : Ending.returned (.tuple #[.int .u64 a, .int .u64 c]) = .returned (.tuple #[.int .u64 b, .int .u64 d]) := by rw [h, h2]

/-- The sum of two words and a carry: no way goes over, or one does. -/
theorem gadd_core (x y c : Int) (hx : 0 ≤ x) (hx2 : x ≤ 18446744073709551615) (hy : 0 ≤ y) (hy2 : y ≤ 18446744073709551615) (hc : 0 ≤ c) (hc2 : c ≤ 1) (w : World) :
    Calls Try.prog 71 #[.int .u64 x, .int .u64 y, .int .u64 c] w fun e w' => e = .returned (.tuple #[.int .u64 ((x + y + c) % 18446744073709551616), .int .u64 ((x + y + c) / 18446744073709551616)]) ∧ w' = w := by
  obtain ⟨s, hs⟩ : ∃ s, s = (x + y) % 18446744073709551616 := ⟨_, rfl⟩
  obtain ⟨t, ht⟩ : ∃ t, t = (s + c) % 18446744073709551616 := ⟨_, rfl⟩
  have e1 : IntKind.u64.wrap (x + y) = s := by rw [IntKind.wrap_u64, hs]
  have e2 : IntKind.u64.wrap (s + c) = t := by rw [IntKind.wrap_u64, ht]
  have et : t = (x + y + c) % 18446744073709551616 := by omega
  have E := veil et
  by_cases h1 : s < x
  · have h2 : ¬ t < s := by omega
    have eo : (x + y + c) / 18446744073709551616 = 1 := by omega
    have EO := veil eo
    clear et eo hs ht hx hx2 hy hy2 hc hc2
    go_enter Try.func71, Try.ntmps71
    go_wp2
    go_ret2
    rw [EO.out, ← E.out]
    exact ⟨ret_u2' (by first | rfl | (rw [e1, e2]) | (rw [e2])) rfl, rfl⟩
  · by_cases h2 : t < s
    · have eo : (x + y + c) / 18446744073709551616 = 1 := by omega
      have EO := veil eo
      clear et eo hs ht hx hx2 hy hy2 hc hc2
      go_enter Try.func71, Try.ntmps71
      go_wp2
      go_ret2
      rw [EO.out, ← E.out]
      exact ⟨ret_u2' (by first | rfl | (rw [e1, e2]) | (rw [e2])) rfl, rfl⟩
    · have eo : (x + y + c) / 18446744073709551616 = 0 := by omega
      have EO := veil eo
      clear et eo hs ht hx hx2 hy hy2 hc hc2
      go_enter Try.func71, Try.ntmps71
      go_wp2
      go_ret2
      rw [EO.out, ← E.out]
      exact ⟨ret_u2' (by first | rfl | (rw [e1, e2]) | (rw [e2])) rfl, rfl⟩

theorem gadd_at (X Y k : Nat) (w : World) :
    Calls Try.prog 71 #[.int .u64 (wd X k), .int .u64 (wd Y k), .int .u64 (cyI X Y k)] w fun e w' => e = .returned (.tuple #[.int .u64 (wd (X + Y) k), .int .u64 (cyI X Y (k + 1))]) ∧ w = w' := by
  have hc := cy_le w64_pos X Y k
  have h := gadd_core (wd X k) (wd Y k) (cyI X Y k) (wd_lo _ _) (wd_le _ _) (wd_lo _ _) (wd_le _ _) (by unfold cyI; omega) (by unfold cyI; omega) w
  have e1 : (wd X k + wd Y k + cyI X Y k) % 18446744073709551616 = wd (X + Y) k := by
    unfold wd cyI; rw [dg_add w64_pos]; unfold w64; simp
  have e2 : (wd X k + wd Y k + cyI X Y k) / 18446744073709551616 = cyI X Y (k + 1) := by
    unfold wd cyI; rw [cy_succ w64_pos]; unfold w64; simp
  rw [e1, e2] at h
  exact h.mono fun _ _ ⟨a, b⟩ => ⟨a, b.symm⟩

theorem row_mix {X Z k : Nat} (_hk : k < 4) : ∀ i, i < 4 → (if i = k then Value.int .u64 (wd Z k) else Value.int .u64 (if i < k then wd Z i else wd X i)) = Value.int .u64 (if i < k + 1 then wd Z i else wd X i) := by
  intro i _
  by_cases h : i = k
  · subst h; simp
  · rw [if_neg h]; by_cases h2 : i < k
    · rw [if_pos h2, if_pos (by omega)]
    · rw [if_neg h2, if_neg (by omega)]
theorem cyI_one {X Y : Nat} (hX : X < top) (hY : Y < top) : (cyI X Y 4 == 1) = decide (top ≤ X + Y) := by
  unfold cyI
  rw [cy_top (n := 4) hX hY]
  show _ = decide (w64 ^ 4 ≤ X + Y)
  by_cases h : w64 ^ 4 ≤ X + Y <;> simp [h]

set_option maxRecDepth 100000 in
set_option maxHeartbeats 1000000 in
theorem plus_any (X Y : Nat) (hX : X < top) (hY : Y < top) (w : World) :
    Calls Try.prog 53 #[.agg #[.int .u64 (wd (X) 0), .int .u64 (wd (X) 1), .int .u64 (wd (X) 2), .int .u64 (wd (X) 3)], .agg #[.int .u64 (wd (Y) 0), .int .u64 (wd (Y) 1), .int .u64 (wd (Y) 2), .int .u64 (wd (Y) 3)]] w fun e w' => e = .returned (.tuple #[.agg #[.int .u64 (wd (X + Y) 0), .int .u64 (wd (X + Y) 1), .int .u64 (wd (X + Y) 2), .int .u64 (wd (X + Y) 3)], .bool (decide (top ≤ X + Y))]) ∧ Below w.heap.size w w' := by
  have HG := veil (fun (k : Nat) (W : World) => gadd_at X Y k W)
  go_enter Try.func53, Try.ntmps53
  go_wp2
  go_loopw [6, 7] (fun c i wr => ∃ k : Nat, k ≤ 4 ∧ i = .int .i64 k ∧ c = .int .u64 (cyI X Y k) ∧ wr.rowIs w.heap.size 24 4 (fun j => .int .u64 (if j < k then wd (X + Y) j else wd X j))
      ∧ wr.rowIs (w.heap.size + 1) 24 4 (fun j => .int .u64 (wd Y j)) ∧ wr.rowIs (w.heap.size + 1 + 1) 24 4 (fun _ => .int .u64 0) ∧ Below w.heap.size w wr)
    (fun _ i _ => 4 - (intOf i).toNat)
  case atStart => exact ⟨0, by omega, rfl, by simp [cyI, cy_zero], (((row_new (n := 4) (by simp) rfl (arr4 fun j => .int .u64 (wd X j))).alloc _).alloc _).congr (fun j _ => by simp), (row_new (n := 4) (by simp) rfl (arr4 fun j => .int .u64 (wd Y j))).alloc _, row_new (n := 4) (by simp) rfl (arr4 fun _ => .int .u64 0), (((Below.refl _ _).alloc (by simp) _).alloc (by simp) _).alloc (by simp; omega) _⟩
  case round =>
    obtain ⟨k, hk, rfl, rfl, hRX, hRY, hRZ, hbel⟩ := hrel
    by_cases hlt : k < 4
    · have c1 := hRX.cell hlt
      have c2 := hRY.cell hlt
      have f1 := hRX.frozen k
      rw [if_neg (by omega)] at c1
      go_wp2
      go_region_with (go_at_call 71; refine (HG.out _ _).mono ?_; rintro e w' ⟨rfl, rfl⟩)
      all_goals
        go_wp2
        go_roundw
        case rel => exact ⟨k + 1, by omega, by go_num, rfl, ((hRX.set k _).congr (row_mix hlt)).drew, (row_far hRY (by omega) _).drew, (row_far hRZ (by omega) _).drew, (below_set hbel (by omega) _).drew⟩
        case measure => simp [intOf]; omega
    · obtain rfl : k = 4 := by omega
      obtain ⟨c0, c1, c2, c3⟩ := row_c4 hRX
      obtain ⟨d0, d1, d2, d3⟩ := row_c4 hRZ
      obtain ⟨f0, f1, f2, f3⟩ := row_f4 hRZ
      simp only [show (0 : Nat) < 4 from by omega, show (1 : Nat) < 4 from by omega, show (2 : Nat) < 4 from by omega, show (3 : Nat) < 4 from by omega, if_true] at c0 c1 c2 c3
      have hz := cyI_one hX hY
      clear hRX hRY
      go_wp2
      refine bodyPost_ret (results_cell_tmp2 rfl _ _ (w.heap.size + 1 + 1) 24 #[.int .u64 (wd (X + Y) 0), .int .u64 (wd (X + Y) 1), .int .u64 (wd (X + Y) 2), .int .u64 (wd (X + Y) 3)] (0, 0) 4 22 rfl (blk4 (put4 hRZ fun j => .int .u64 (wd (X + Y) j))) Try.underlying24 (by kernel_rfl)) rfl ⟨?_, below_put4 hbel (by omega) _ _ _ _⟩
      rfl
theorem plus_calls (X Y : Nat) (hX : X < top) (hY : Y < top) (w : World) :
    Calls Try.prog 53 #[.agg #[.int .u64 (wd (X) 0), .int .u64 (wd (X) 1), .int .u64 (wd (X) 2), .int .u64 (wd (X) 3)], .agg #[.int .u64 (wd (Y) 0), .int .u64 (wd (Y) 1), .int .u64 (wd (Y) 2), .int .u64 (wd (Y) 3)]] w fun e w' => e = .returned (.tuple #[.agg #[.int .u64 (wd ((X + Y) % top) 0), .int .u64 (wd ((X + Y) % top) 1), .int .u64 (wd ((X + Y) % top) 2), .int .u64 (wd ((X + Y) % top) 3)], .bool (decide (top ≤ X + Y))]) ∧ Below w.heap.size w w' := by
  rw [wd_mod _ 0 (by omega), wd_mod _ 1 (by omega), wd_mod _ 2 (by omega), wd_mod _ 3 (by omega)]
  exact plus_any X Y hX hY w

theorem lt_high {X Y m : Nat} (hX : X < top) (hY : Y < top) (hm : m < 4) (h : ∀ j, m < j → j < 4 → dg w64 X j = dg w64 Y j) (hne : dg w64 X m ≠ dg w64 Y m) : decide (X < Y) = decide (wd X m < wd Y m) := by
  have hc := cmp_high w64 X Y 4 m w64_pos hX hY hm h hne
  unfold cmpN at hc
  unfold wd
  by_cases h1 : dg w64 X m < dg w64 Y m
  · rw [if_pos h1] at hc
    by_cases h2 : X < Y
    · simp [h1, h2]
    · rw [if_neg h2] at hc; split at hc <;> omega
  · rw [if_neg h1] at hc
    by_cases h2 : X < Y
    · rw [if_pos h2] at hc; omega
    · simp [h1, h2]

set_option maxRecDepth 100000 in
set_option maxHeartbeats 1000000 in
theorem less_calls (X Y : Nat) (hX : X < top) (hY : Y < top) (w : World) :
    Calls Try.prog 54 #[.agg #[.int .u64 (wd (X) 0), .int .u64 (wd (X) 1), .int .u64 (wd (X) 2), .int .u64 (wd (X) 3)], .agg #[.int .u64 (wd (Y) 0), .int .u64 (wd (Y) 1), .int .u64 (wd (Y) 2), .int .u64 (wd (Y) 3)]] w fun e w' => e = .returned (.bool (decide (X < Y))) ∧ Below w.heap.size w w' := by
  go_enter Try.func54, Try.ntmps54
  go_wp2
  go_loopw [5] (fun i wr => ∃ k : Nat, k ≤ 4 ∧ i = .int .i64 ((k : Int) - 1) ∧ (∀ j, k ≤ j → j < 4 → dg w64 X j = dg w64 Y j) ∧ wr.rowIs w.heap.size 24 4 (fun j => .int .u64 (wd X j))
      ∧ wr.rowIs (w.heap.size + 1) 24 4 (fun j => .int .u64 (wd Y j)) ∧ Below w.heap.size w wr)
    (fun i _ => (intOf i + 1).toNat)
  case atStart => exact ⟨4, by omega, rfl, by intro j h1 h2; omega, (row_new (n := 4) (by simp) rfl (arr4 fun j => .int .u64 (wd X j))).alloc _, row_new (n := 4) (by simp) rfl (arr4 fun j => .int .u64 (wd Y j)), ((Below.refl _ _).alloc (by simp) _).alloc (by simp) _⟩
  case round =>
    obtain ⟨k, hk, hi, hall, hRX, hRY, hbel⟩ := hrel
    have HALL := veil hall
    clear hall
    cases k with
    | zero =>
      subst hi
      have hXY : X = Y := eq_of_dg_lt w64_pos hX hY fun j hj => HALL.out j (Nat.zero_le _) hj
      have HXY := veil hXY
      clear hXY
      go_wp2
      go_ret
      rw [show decide (X < Y) = false by rw [HXY.out]; simp]
      exact ⟨rfl, hbel⟩
    | succ m =>
      obtain rfl : _ = Value.int .i64 (m : Int) := hi.trans (by congr 1; omega)
      have hm : m < 4 := by omega
      go_wp2
      have c1 := hRX.cell hm
      have c2 := hRY.cell hm
      by_cases h : dg w64 X m = dg w64 Y m
      · have hne : (wd X m != wd Y m) = false := by unfold wd; rw [h]; simp
        go_quiet (fail)
        go_wp2
        go_roundw
        case rel => exact ⟨m, by omega, by go_num, fun j h1 h2 => by
          by_cases e : j = m
          · rw [e]; exact h
          · exact HALL.out j (by omega) h2, row_drewN hRX _, row_drewN hRY _, below_drewN hbel _⟩
        case measure => simp [intOf]
      · have hne : (wd X m != wd Y m) = true := by rw [bne_iff_ne]; unfold wd; omega
        have HC := veil (lt_high hX hY hm (fun j h1 h2 => HALL.out j (by omega) h2) h)
        clear h
        go_quiet (fail)
        go_wp2
        go_quiet (fail)
        go_wp2
        go_ret
        rw [HC.out]
        exact ⟨rfl, below_drewN (below_drewN hbel _) _⟩
end Go.Proofs.Ytppfcdpokgnpfaa


/-
  clapperref02's minus, Add, Sub: what the document's answer for layer 2 makes of sums and differences.
-/
namespace Go.Proofs.Ytppfcdpokgnpfaa
open Go.RowKit

theorem dg_ones {B : Nat} (hB : 0 < B) (n i : Nat) (hi : i < n) : dg B (B ^ n - 1) i = B - 1 := by
  obtain ⟨d, rfl⟩ : ∃ d, n = i + (d + 1) := ⟨n - i - 1, by omega⟩
  have hp : 0 < B ^ i := Nat.pow_pos hB
  have hd : 0 < B ^ d := Nat.pow_pos hB
  have e : B ^ (i + (d + 1)) - 1 = (B ^ i - 1) + B ^ i * (B ^ (d + 1) - 1) := by
    rw [Nat.pow_add, Nat.mul_sub, Nat.mul_one]
    have : B ^ i ≤ B ^ i * B ^ (d + 1) := Nat.le_mul_of_pos_right _ (Nat.pow_pos hB)
    omega
  have e2 : B ^ (d + 1) - 1 = (B - 1) + B * (B ^ d - 1) := by
    rw [Nat.pow_succ, Nat.mul_comm, Nat.mul_sub, Nat.mul_one]
    have : B ≤ B * B ^ d := Nat.le_mul_of_pos_right _ hd
    omega
  unfold dg
  rw [e, Nat.add_mul_div_left _ _ hp, Nat.div_eq_of_lt (by omega), Nat.zero_add, e2, Nat.add_mul_mod_self_left, Nat.mod_eq_of_lt (by omega)]
theorem dg_comp {B : Nat} (hB : 0 < B) (Y n i : Nat) (hi : i < n) (hY : Y < B ^ n) : dg B (B ^ n - 1 - Y) i = B - 1 - dg B Y i := by
  have h := dg_sub hB (B ^ n - 1) Y n i hi (Nat.le_of_lt hY)
  have e : dg B (B ^ n - 1 + B ^ n - Y) i = dg B (B ^ n - 1 - Y) i := by
    rw [show B ^ n - 1 + B ^ n - Y = (B ^ n - 1 - Y) + B ^ n by omega, ← dg_mod _ n i hi, Nat.add_mod_right, dg_mod _ n i hi]
  have hb : bw B (B ^ n - 1) Y i = 0 := by
    have hp : 0 < B ^ i := Nat.pow_pos hB
    unfold bw
    have e2 : (B ^ n - 1) % B ^ i = B ^ i - 1 := by
      obtain ⟨d, rfl⟩ : ∃ d, n = i + d := ⟨n - i, by omega⟩
      have : B ^ i ≤ B ^ i * B ^ d := Nat.le_mul_of_pos_right _ (Nat.pow_pos hB)
      rw [Nat.pow_add, show B ^ i * B ^ d - 1 = (B ^ i - 1) + B ^ i * (B ^ d - 1) by rw [Nat.mul_sub, Nat.mul_one]; omega, Nat.add_mul_mod_self_left, Nat.mod_eq_of_lt (by omega)]
    have h1 := Nat.mod_lt Y hp
    rw [e2, if_neg (by omega)]
  have hl := dg_lt hB Y i
  rw [e, hb, dg_ones hB n i hi] at h
  rw [h, Nat.mod_eq_sub_mod (by omega), Nat.mod_eq_of_lt (by omega)]
  omega
theorem wd_comp {Y i : Nat} (hY : Y < top) (hi : i < 4) : 18446744073709551615 - wd Y i = wd (top - 1 - Y) i := by
  have h := dg_comp w64_pos Y 4 i hi hY
  have hl := dg_lt w64_pos Y i
  unfold wd top
  rw [h]
  unfold w64 at *
  omega
theorem minus_num {X Y : Nat} (hY : Y < top) : ((X + (top - 1 - Y)) % top + 1) % top = (X + top - Y) % top := by
  rw [Nat.mod_add_mod, show X + (top - 1 - Y) + 1 = X + top - Y by omega]

set_option maxRecDepth 100000 in
set_option maxHeartbeats 1000000 in
theorem minus_calls (X Y : Nat) (hX : X < top) (hY : Y < top) (w : World) :
    Calls Try.prog 55 #[.agg #[.int .u64 (wd (X) 0), .int .u64 (wd (X) 1), .int .u64 (wd (X) 2), .int .u64 (wd (X) 3)], .agg #[.int .u64 (wd (Y) 0), .int .u64 (wd (Y) 1), .int .u64 (wd (Y) 2), .int .u64 (wd (Y) 3)]] w fun e w' => e = .returned (.agg #[.int .u64 (wd ((X + top - Y) % top) 0), .int .u64 (wd ((X + top - Y) % top) 1), .int .u64 (wd ((X + top - Y) % top) 2), .int .u64 (wd ((X + top - Y) % top) 3)]) ∧ Below w.heap.size w w' := by
  obtain ⟨D, hD⟩ : ∃ D, D = (X + top - Y) % top := ⟨_, rfl⟩
  rw [← hD]
  have HD := veil hD
  clear hD
  go_enter Try.func55, Try.ntmps55
  go_wp2
  go_loopw [5] (fun i wr => ∃ k : Nat, k ≤ 4 ∧ i = .int .i64 k ∧ wr.rowIs w.heap.size 24 4 (fun j => .int .u64 (wd X j))
      ∧ wr.rowIs (w.heap.size + 1) 24 4 (fun j => .int .u64 (if j < k then wd (top - 1 - Y) j else wd Y j)) ∧ wr.rowIs (w.heap.size + 1 + 1) 24 4 (fun _ => .int .u64 0) ∧ Below w.heap.size w wr)
    (fun i _ => 4 - (intOf i).toNat)
  case atStart => exact ⟨0, by omega, rfl, ((row_new (n := 4) (by simp) rfl (arr4 fun j => .int .u64 (wd X j))).alloc _).alloc _, ((row_new (n := 4) (by simp) rfl (arr4 fun j => .int .u64 (wd Y j))).alloc _).congr (fun j _ => by simp), row_new (n := 4) (by simp) rfl (arr4 fun _ => .int .u64 0), (((Below.refl _ _).alloc (by simp) _).alloc (by simp) _).alloc (by simp; omega) _⟩
  case round =>
    obtain ⟨k, hk, rfl, hRX, hRY, hRZ, hbel⟩ := hrel
    by_cases hlt : k < 4
    · have c2 := hRY.cell hlt
      have f2 := hRY.frozen k
      rw [if_neg (by omega)] at c2
      have l1 := wd_lo Y k
      have u1 := wd_le Y k
      have HC := veil (wd_comp hY hlt)
      go_wp2
      go_roundw
      case rel =>
        rw [HC.out]
        exact ⟨k + 1, by omega, by go_num, row_far hRX (by omega) _, (hRY.set k _).congr (row_mix hlt), row_far hRZ (by omega) _, below_set hbel (by omega) _⟩
      case measure => simp [intOf]; omega
    · obtain rfl : k = 4 := by omega
      have hRY := hRY.congr (g := fun j => .int .u64 (wd (top - 1 - Y) j)) (fun j hj => by rw [if_pos hj])
      obtain ⟨c0, c1, c2, c3⟩ := row_c4 hRX
      obtain ⟨b0, b1, b2, b3⟩ := row_c4 hRY
      obtain ⟨S, hS⟩ : ∃ S, S = (X + (top - 1 - Y)) % top := ⟨_, rfl⟩
      have hSt : S < top := by rw [hS]; exact Nat.mod_lt _ top_pos
      have h1 := fun W => plus_calls X (top - 1 - Y) hX (by omega) W
      have h2 := fun W => plus_calls S 1 hSt (by decide) W
      rw [← hS] at h1
      rw [hS, minus_num hY, ← hS, ← HD.out] at h2
      have H1 := veil h1
      have o0 : wd 1 0 = 1 := by decide
      have o1 : wd 1 1 = 0 := by decide
      have o2 : wd 1 2 = 0 := by decide
      have o3 : wd 1 3 = 0 := by decide
      rw [o0, o1, o2, o3] at h2
      have H2 := veil h2
      clear h1 h2 hS o0 o1 o2 o3
      go_wp2_with fail
      refine (H1.out _).mono ?_
      rintro e w3 ⟨rfl, hb3⟩
      clear c0 c1 c2 c3 b0 b1 b2 b3
      have hRZ3 := row_below hRZ hb3 hRZ.lt
      have hB3 := hbel.trans (hb3.mono hbel.size)
      have hS4 : (w3.alloc (.cells #[.int .u64 (wd (S) 0), .int .u64 (wd (S) 1), .int .u64 (wd (S) 2), .int .u64 (wd (S) 3)] 24)).rowIs w3.heap.size 24 4 (fun j => .int .u64 (wd S j)) := row_new (n := 4) rfl rfl (arr4 fun j => .int .u64 (wd S j))
      have hRZ4 := hRZ3.alloc (.cells #[.int .u64 (wd (S) 0), .int .u64 (wd (S) 1), .int .u64 (wd (S) 2), .int .u64 (wd (S) 3)] 24)
      have hB4 := hB3.alloc hB3.size (.cells #[.int .u64 (wd (S) 0), .int .u64 (wd (S) 1), .int .u64 (wd (S) 2), .int .u64 (wd (S) 3)] 24)
      have nz := hRZ3.lt
      clear hRX hRY hRZ hbel hb3 hRZ3 hB3
      go_wp2_with fail
      refine (H2.out _).mono ?_
      rintro e w5 ⟨rfl, hb5⟩
      have hS5 := row_below hS4 hb5 hS4.lt
      have hRZ5 := row_below hRZ4 hb5 hRZ4.lt
      have hB5 := hB4.trans (hb5.mono hB4.size)
      clear hS4 hRZ4 hB4 hb5
      obtain ⟨t0, t1, t2, t3⟩ := row_f4 hS5
      obtain ⟨v0, v1, v2, v3⟩ := row_c4 hS5
      go_upto_region 7 with (fail)
      have hTz := put4 hS5 (fun j => .int .u64 (wd D j))
      have hZz := row_far4 hRZ5 (Nat.ne_of_lt nz) (.int .u64 (wd D 0)) (.int .u64 (wd D 1)) (.int .u64 (wd D 2)) (.int .u64 (wd D 3))
      have hBz := below_put4 (b := w3.heap.size) hB5 (by omega) (.int .u64 (wd D 0)) (.int .u64 (wd D 1)) (.int .u64 (wd D 2)) (.int .u64 (wd D 3))
      clear v0 v1 v2 v3 t0 t1 t2 t3 hS5 hRZ5 hB5
      generalize ((((w5.setCell ⟨w3.heap.size, 0, none⟩ (.int .u64 (wd D 0))).setCell ⟨w3.heap.size, 1, none⟩ (.int .u64 (wd D 1))).setCell ⟨w3.heap.size, 2, none⟩ (.int .u64 (wd D 2))).setCell ⟨w3.heap.size, 3, none⟩ (.int .u64 (wd D 3))) = wz at *
      obtain ⟨p0, p1, p2, p3⟩ := row_c4 hTz
      obtain ⟨d0, d1, d2, d3⟩ := row_c4 hZz
      obtain ⟨f0, f1, f2, f3⟩ := row_f4 hZz
      go_wp2
      refine bodyPost_ret (results_cell_row rfl _ _ (w.heap.size + 1 + 1) 24 #[.int .u64 (wd (D) 0), .int .u64 (wd (D) 1), .int .u64 (wd (D) 2), .int .u64 (wd (D) 3)] (0, 0) _ rfl (blk4 (put4 hZz fun j => .int .u64 (wd D j))) Try.underlying24 rfl (by kernel_rfl)) rfl ⟨rfl, below_put4 hBz (by omega) _ _ _ _⟩

/-- The sum of two numbers below M, modulo M. -/
theorem gsum_num {X Y M : Nat} (hX : X < M) (hY : Y < M) (hM : M ≤ top) : (X + Y) % M = if top ≤ X + Y ∨ ¬ (X + Y) % top < M then ((X + Y) % top + top - M) % top else (X + Y) % top := by
  generalize top = t at *
  by_cases h : t ≤ X + Y
  · rw [if_pos (Or.inl h), Nat.mod_eq_sub_mod (show t ≤ X + Y from h), Nat.mod_eq_of_lt (show X + Y - t < t by omega), show X + Y - t + t - M = X + Y - M by omega, Nat.mod_eq_of_lt (show X + Y - M < t by omega)]
    rw [Nat.mod_eq_sub_mod (by omega), Nat.mod_eq_of_lt (by omega)]
  · rw [Nat.mod_eq_of_lt (show X + Y < t by omega)]
    by_cases h2 : X + Y < M
    · rw [if_neg (by omega), Nat.mod_eq_of_lt h2]
    · rw [if_pos (Or.inr h2), Nat.mod_eq_sub_mod (show M ≤ X + Y by omega), Nat.mod_eq_of_lt (show X + Y - M < M by omega), show X + Y + t - M = (X + Y - M) + t by omega, Nat.add_mod_right, Nat.mod_eq_of_lt (by omega)]
theorem plus_is (X Y Z : Nat) (u : Bool) (h : (X + Y) % top = Z) (h2 : decide (top ≤ X + Y) = u) (hX : X < top) (hY : Y < top) (w : World) :
    Calls Try.prog 53 #[.agg #[.int .u64 (wd (X) 0), .int .u64 (wd (X) 1), .int .u64 (wd (X) 2), .int .u64 (wd (X) 3)], .agg #[.int .u64 (wd (Y) 0), .int .u64 (wd (Y) 1), .int .u64 (wd (Y) 2), .int .u64 (wd (Y) 3)]] w fun e w' => e = .returned (.tuple #[.agg #[.int .u64 (wd (Z) 0), .int .u64 (wd (Z) 1), .int .u64 (wd (Z) 2), .int .u64 (wd (Z) 3)], .bool u]) ∧ Below w.heap.size w w' := by
  subst h; subst h2; exact plus_calls X Y hX hY w
theorem less_is (X Y : Nat) (u : Bool) (h : decide (X < Y) = u) (hX : X < top) (hY : Y < top) (w : World) :
    Calls Try.prog 54 #[.agg #[.int .u64 (wd (X) 0), .int .u64 (wd (X) 1), .int .u64 (wd (X) 2), .int .u64 (wd (X) 3)], .agg #[.int .u64 (wd (Y) 0), .int .u64 (wd (Y) 1), .int .u64 (wd (Y) 2), .int .u64 (wd (Y) 3)]] w fun e w' => e = .returned (.bool u) ∧ Below w.heap.size w w' := by
  subst h; exact less_calls X Y hX hY w
theorem minus_is (X Y Z : Nat) (h : (X + top - Y) % top = Z) (hX : X < top) (hY : Y < top) (w : World) :
    Calls Try.prog 55 #[.agg #[.int .u64 (wd (X) 0), .int .u64 (wd (X) 1), .int .u64 (wd (X) 2), .int .u64 (wd (X) 3)], .agg #[.int .u64 (wd (Y) 0), .int .u64 (wd (Y) 1), .int .u64 (wd (Y) 2), .int .u64 (wd (Y) 3)]] w fun e w' => e = .returned (.agg #[.int .u64 (wd (Z) 0), .int .u64 (wd (Z) 1), .int .u64 (wd (Z) 2), .int .u64 (wd (Z) 3)]) ∧ Below w.heap.size w w' := by
  subst h; exact minus_calls X Y hX hY w

end Go.Proofs.Ytppfcdpokgnpfaa


/-
  clapperref02.Add, Sub: the document's sum and difference modulo a number.
-/
namespace Go.Proofs.Ytppfcdpokgnpfaa
open Go.RowKit

theorem ret_num {X Y : Nat} (h : X = Y) : Ending.returned (.agg #[.int .u64 (wd (X) 0), .int .u64 (wd (X) 1), .int .u64 (wd (X) 2), .int .u64 (wd (X) 3)]) = .returned (.agg #[.int .u64 (wd (Y) 0), .int .u64 (wd (Y) 1), .int .u64 (wd (Y) 2), .int .u64 (wd (Y) 3)]) := by rw [h]

set_option maxRecDepth 100000 in
set_option maxHeartbeats 2000000 in
theorem gadd_over (X Y M S D : Nat) (hX : X < top) (hY : Y < top) (hM : M < top) (hS : (X + Y) % top = S) (hu : decide (top ≤ X + Y) = true) (hD : (S + top - M) % top = D) (w : World) :
    Calls Try.prog 31 #[.agg #[.int .u64 (wd (X) 0), .int .u64 (wd (X) 1), .int .u64 (wd (X) 2), .int .u64 (wd (X) 3)], .agg #[.int .u64 (wd (Y) 0), .int .u64 (wd (Y) 1), .int .u64 (wd (Y) 2), .int .u64 (wd (Y) 3)], .agg #[.int .u64 (wd (M) 0), .int .u64 (wd (M) 1), .int .u64 (wd (M) 2), .int .u64 (wd (M) 3)]] w fun e w' => e = .returned (.agg #[.int .u64 (wd (D) 0), .int .u64 (wd (D) 1), .int .u64 (wd (D) 2), .int .u64 (wd (D) 3)]) ∧ Below w.heap.size w w' := by
  have hSt : S < top := by rw [← hS]; exact Nat.mod_lt _ top_pos
  have HS := veil hS
  have HU := veil hu
  have HD := veil hD
  clear hS hu hD
  have hX0 : ((((w.alloc (.cells #[.int .u64 (wd (X) 0), .int .u64 (wd (X) 1), .int .u64 (wd (X) 2), .int .u64 (wd (X) 3)] 24)).alloc (.cells #[.int .u64 (wd (Y) 0), .int .u64 (wd (Y) 1), .int .u64 (wd (Y) 2), .int .u64 (wd (Y) 3)] 24)).alloc (.cells #[.int .u64 (wd (M) 0), .int .u64 (wd (M) 1), .int .u64 (wd (M) 2), .int .u64 (wd (M) 3)] 24)).alloc (.cells #[.int .u64 0, .int .u64 0, .int .u64 0, .int .u64 0] 24)).rowIs w.heap.size 24 4 (fun j => .int .u64 (wd X j)) := (((row_new (n := 4) (by simp) rfl (arr4 fun j => .int .u64 (wd X j))).alloc _).alloc _).alloc _
  have hY0 : ((((w.alloc (.cells #[.int .u64 (wd (X) 0), .int .u64 (wd (X) 1), .int .u64 (wd (X) 2), .int .u64 (wd (X) 3)] 24)).alloc (.cells #[.int .u64 (wd (Y) 0), .int .u64 (wd (Y) 1), .int .u64 (wd (Y) 2), .int .u64 (wd (Y) 3)] 24)).alloc (.cells #[.int .u64 (wd (M) 0), .int .u64 (wd (M) 1), .int .u64 (wd (M) 2), .int .u64 (wd (M) 3)] 24)).alloc (.cells #[.int .u64 0, .int .u64 0, .int .u64 0, .int .u64 0] 24)).rowIs (w.heap.size + 1) 24 4 (fun j => .int .u64 (wd Y j)) := ((row_new (n := 4) (by simp) rfl (arr4 fun j => .int .u64 (wd Y j))).alloc _).alloc _
  have hM0 : ((((w.alloc (.cells #[.int .u64 (wd (X) 0), .int .u64 (wd (X) 1), .int .u64 (wd (X) 2), .int .u64 (wd (X) 3)] 24)).alloc (.cells #[.int .u64 (wd (Y) 0), .int .u64 (wd (Y) 1), .int .u64 (wd (Y) 2), .int .u64 (wd (Y) 3)] 24)).alloc (.cells #[.int .u64 (wd (M) 0), .int .u64 (wd (M) 1), .int .u64 (wd (M) 2), .int .u64 (wd (M) 3)] 24)).alloc (.cells #[.int .u64 0, .int .u64 0, .int .u64 0, .int .u64 0] 24)).rowIs (w.heap.size + 1 + 1) 24 4 (fun j => .int .u64 (wd M j)) := (row_new (n := 4) (by simp) rfl (arr4 fun j => .int .u64 (wd M j))).alloc _
  have hZ0 : ((((w.alloc (.cells #[.int .u64 (wd (X) 0), .int .u64 (wd (X) 1), .int .u64 (wd (X) 2), .int .u64 (wd (X) 3)] 24)).alloc (.cells #[.int .u64 (wd (Y) 0), .int .u64 (wd (Y) 1), .int .u64 (wd (Y) 2), .int .u64 (wd (Y) 3)] 24)).alloc (.cells #[.int .u64 (wd (M) 0), .int .u64 (wd (M) 1), .int .u64 (wd (M) 2), .int .u64 (wd (M) 3)] 24)).alloc (.cells #[.int .u64 0, .int .u64 0, .int .u64 0, .int .u64 0] 24)).rowIs (w.heap.size + 1 + 1 + 1) 24 4 (fun _ => .int .u64 0) := row_new (n := 4) (by simp) rfl (arr4 fun _ => .int .u64 0)
  have hB0 : Below w.heap.size w ((((w.alloc (.cells #[.int .u64 (wd (X) 0), .int .u64 (wd (X) 1), .int .u64 (wd (X) 2), .int .u64 (wd (X) 3)] 24)).alloc (.cells #[.int .u64 (wd (Y) 0), .int .u64 (wd (Y) 1), .int .u64 (wd (Y) 2), .int .u64 (wd (Y) 3)] 24)).alloc (.cells #[.int .u64 (wd (M) 0), .int .u64 (wd (M) 1), .int .u64 (wd (M) 2), .int .u64 (wd (M) 3)] 24)).alloc (.cells #[.int .u64 0, .int .u64 0, .int .u64 0, .int .u64 0] 24)) := ((((Below.refl _ _).alloc (by simp) _).alloc (by simp) _).alloc (by simp; omega) _).alloc (by simp; omega) _
  go_enter Try.func31, Try.ntmps31
  obtain ⟨a0, a1, a2, a3⟩ := row_c4 hX0
  obtain ⟨b0, b1, b2, b3⟩ := row_c4 hY0
  go_wp2_with fail
  refine (plus_is X Y S true HS.out HU.out hX hY _).mono ?_
  rintro e w1 ⟨rfl, hb1⟩
  clear a0 a1 a2 a3 b0 b1 b2 b3
  have hM1 := row_below hM0 hb1 hM0.lt
  have hZ1 := row_below hZ0 hb1 hZ0.lt
  have hB1 := hB0.trans (hb1.mono hB0.size)
  have hS2 : (w1.alloc (.cells #[.int .u64 (wd (S) 0), .int .u64 (wd (S) 1), .int .u64 (wd (S) 2), .int .u64 (wd (S) 3)] 24)).rowIs w1.heap.size 24 4 (fun j => .int .u64 (wd S j)) := row_new (n := 4) rfl rfl (arr4 fun j => .int .u64 (wd S j))
  have hM2 := hM1.alloc (.cells #[.int .u64 (wd (S) 0), .int .u64 (wd (S) 1), .int .u64 (wd (S) 2), .int .u64 (wd (S) 3)] 24)
  have hZ2 := hZ1.alloc (.cells #[.int .u64 (wd (S) 0), .int .u64 (wd (S) 1), .int .u64 (wd (S) 2), .int .u64 (wd (S) 3)] 24)
  have hB2 := hB1.alloc hB1.size (.cells #[.int .u64 (wd (S) 0), .int .u64 (wd (S) 1), .int .u64 (wd (S) 2), .int .u64 (wd (S) 3)] 24)
  have nz := hZ1.lt
  have nm := hM1.lt
  clear hX0 hY0 hM0 hZ0 hB0 hb1 hM1 hZ1 hB1
  obtain ⟨s0, s1, s2, s3⟩ := row_c4 hS2
  obtain ⟨m0, m1, m2, m3⟩ := row_c4 hM2
  go_wp2_with fail
  refine (minus_is S M D HD.out hSt hM _).mono ?_
  rintro e w5 ⟨rfl, hb5⟩
  clear s0 s1 s2 s3 m0 m1 m2 m3
  have hS5 := row_below hS2 hb5 hS2.lt
  have hZ5 := row_below hZ2 hb5 hZ2.lt
  have hB5 := hB2.trans (hb5.mono hB2.size)
  clear hS2 hM2 hZ2 hB2 hb5
  obtain ⟨t0, t1, t2, t3⟩ := row_f4 hS5
  obtain ⟨v0, v1, v2, v3⟩ := row_c4 hS5
  go_upto_region 4 with (fail)
  have hTz := put4 hS5 (fun j => .int .u64 (wd D j))
  have hZz := row_far4 hZ5 (Nat.ne_of_lt nz) (.int .u64 (wd D 0)) (.int .u64 (wd D 1)) (.int .u64 (wd D 2)) (.int .u64 (wd D 3))
  have hBz := below_put4 (b := w1.heap.size) hB5 (by omega) (.int .u64 (wd D 0)) (.int .u64 (wd D 1)) (.int .u64 (wd D 2)) (.int .u64 (wd D 3))
  clear v0 v1 v2 v3 t0 t1 t2 t3 hS5 hZ5 hB5
  generalize ((((w5.setCell ⟨w1.heap.size, 0, none⟩ (.int .u64 (wd D 0))).setCell ⟨w1.heap.size, 1, none⟩ (.int .u64 (wd D 1))).setCell ⟨w1.heap.size, 2, none⟩ (.int .u64 (wd D 2))).setCell ⟨w1.heap.size, 3, none⟩ (.int .u64 (wd D 3))) = wz at *
  obtain ⟨p0, p1, p2, p3⟩ := row_c4 hTz
  obtain ⟨d0, d1, d2, d3⟩ := row_c4 hZz
  obtain ⟨f0, f1, f2, f3⟩ := row_f4 hZz
  go_wp2
  refine bodyPost_ret (results_cell_row rfl _ _ (w.heap.size + 1 + 1 + 1) 24 #[.int .u64 (wd (D) 0), .int .u64 (wd (D) 1), .int .u64 (wd (D) 2), .int .u64 (wd (D) 3)] (0, 0) _ rfl (blk4 (put4 hZz fun j => .int .u64 (wd D j))) Try.underlying24 rfl (by kernel_rfl)) rfl ⟨rfl, below_put4 hBz (by omega) _ _ _ _⟩

set_option maxRecDepth 100000 in
set_option maxHeartbeats 2000000 in
theorem gadd_less (X Y M S : Nat) (hX : X < top) (hY : Y < top) (hM : M < top) (hS : (X + Y) % top = S) (hu : decide (top ≤ X + Y) = false) (hl : decide (S < M) = true) (w : World) :
    Calls Try.prog 31 #[.agg #[.int .u64 (wd (X) 0), .int .u64 (wd (X) 1), .int .u64 (wd (X) 2), .int .u64 (wd (X) 3)], .agg #[.int .u64 (wd (Y) 0), .int .u64 (wd (Y) 1), .int .u64 (wd (Y) 2), .int .u64 (wd (Y) 3)], .agg #[.int .u64 (wd (M) 0), .int .u64 (wd (M) 1), .int .u64 (wd (M) 2), .int .u64 (wd (M) 3)]] w fun e w' => e = .returned (.agg #[.int .u64 (wd (S) 0), .int .u64 (wd (S) 1), .int .u64 (wd (S) 2), .int .u64 (wd (S) 3)]) ∧ Below w.heap.size w w' := by
  have hSt : S < top := by rw [← hS]; exact Nat.mod_lt _ top_pos
  have HS := veil hS
  have HU := veil hu
  have HL := veil hl
  clear hS hu hl
  have hX0 : ((((w.alloc (.cells #[.int .u64 (wd (X) 0), .int .u64 (wd (X) 1), .int .u64 (wd (X) 2), .int .u64 (wd (X) 3)] 24)).alloc (.cells #[.int .u64 (wd (Y) 0), .int .u64 (wd (Y) 1), .int .u64 (wd (Y) 2), .int .u64 (wd (Y) 3)] 24)).alloc (.cells #[.int .u64 (wd (M) 0), .int .u64 (wd (M) 1), .int .u64 (wd (M) 2), .int .u64 (wd (M) 3)] 24)).alloc (.cells #[.int .u64 0, .int .u64 0, .int .u64 0, .int .u64 0] 24)).rowIs w.heap.size 24 4 (fun j => .int .u64 (wd X j)) := (((row_new (n := 4) (by simp) rfl (arr4 fun j => .int .u64 (wd X j))).alloc _).alloc _).alloc _
  have hY0 : ((((w.alloc (.cells #[.int .u64 (wd (X) 0), .int .u64 (wd (X) 1), .int .u64 (wd (X) 2), .int .u64 (wd (X) 3)] 24)).alloc (.cells #[.int .u64 (wd (Y) 0), .int .u64 (wd (Y) 1), .int .u64 (wd (Y) 2), .int .u64 (wd (Y) 3)] 24)).alloc (.cells #[.int .u64 (wd (M) 0), .int .u64 (wd (M) 1), .int .u64 (wd (M) 2), .int .u64 (wd (M) 3)] 24)).alloc (.cells #[.int .u64 0, .int .u64 0, .int .u64 0, .int .u64 0] 24)).rowIs (w.heap.size + 1) 24 4 (fun j => .int .u64 (wd Y j)) := ((row_new (n := 4) (by simp) rfl (arr4 fun j => .int .u64 (wd Y j))).alloc _).alloc _
  have hM0 : ((((w.alloc (.cells #[.int .u64 (wd (X) 0), .int .u64 (wd (X) 1), .int .u64 (wd (X) 2), .int .u64 (wd (X) 3)] 24)).alloc (.cells #[.int .u64 (wd (Y) 0), .int .u64 (wd (Y) 1), .int .u64 (wd (Y) 2), .int .u64 (wd (Y) 3)] 24)).alloc (.cells #[.int .u64 (wd (M) 0), .int .u64 (wd (M) 1), .int .u64 (wd (M) 2), .int .u64 (wd (M) 3)] 24)).alloc (.cells #[.int .u64 0, .int .u64 0, .int .u64 0, .int .u64 0] 24)).rowIs (w.heap.size + 1 + 1) 24 4 (fun j => .int .u64 (wd M j)) := (row_new (n := 4) (by simp) rfl (arr4 fun j => .int .u64 (wd M j))).alloc _
  have hZ0 : ((((w.alloc (.cells #[.int .u64 (wd (X) 0), .int .u64 (wd (X) 1), .int .u64 (wd (X) 2), .int .u64 (wd (X) 3)] 24)).alloc (.cells #[.int .u64 (wd (Y) 0), .int .u64 (wd (Y) 1), .int .u64 (wd (Y) 2), .int .u64 (wd (Y) 3)] 24)).alloc (.cells #[.int .u64 (wd (M) 0), .int .u64 (wd (M) 1), .int .u64 (wd (M) 2), .int .u64 (wd (M) 3)] 24)).alloc (.cells #[.int .u64 0, .int .u64 0, .int .u64 0, .int .u64 0] 24)).rowIs (w.heap.size + 1 + 1 + 1) 24 4 (fun _ => .int .u64 0) := row_new (n := 4) (by simp) rfl (arr4 fun _ => .int .u64 0)
  have hB0 : Below w.heap.size w ((((w.alloc (.cells #[.int .u64 (wd (X) 0), .int .u64 (wd (X) 1), .int .u64 (wd (X) 2), .int .u64 (wd (X) 3)] 24)).alloc (.cells #[.int .u64 (wd (Y) 0), .int .u64 (wd (Y) 1), .int .u64 (wd (Y) 2), .int .u64 (wd (Y) 3)] 24)).alloc (.cells #[.int .u64 (wd (M) 0), .int .u64 (wd (M) 1), .int .u64 (wd (M) 2), .int .u64 (wd (M) 3)] 24)).alloc (.cells #[.int .u64 0, .int .u64 0, .int .u64 0, .int .u64 0] 24)) := ((((Below.refl _ _).alloc (by simp) _).alloc (by simp) _).alloc (by simp; omega) _).alloc (by simp; omega) _
  go_enter Try.func31, Try.ntmps31
  obtain ⟨a0, a1, a2, a3⟩ := row_c4 hX0
  obtain ⟨b0, b1, b2, b3⟩ := row_c4 hY0
  go_wp2_with fail
  refine (plus_is X Y S false HS.out HU.out hX hY _).mono ?_
  rintro e w1 ⟨rfl, hb1⟩
  clear a0 a1 a2 a3 b0 b1 b2 b3
  have hM1 := row_below hM0 hb1 hM0.lt
  have hZ1 := row_below hZ0 hb1 hZ0.lt
  have hB1 := hB0.trans (hb1.mono hB0.size)
  have hS2 : (w1.alloc (.cells #[.int .u64 (wd (S) 0), .int .u64 (wd (S) 1), .int .u64 (wd (S) 2), .int .u64 (wd (S) 3)] 24)).rowIs w1.heap.size 24 4 (fun j => .int .u64 (wd S j)) := row_new (n := 4) rfl rfl (arr4 fun j => .int .u64 (wd S j))
  have hM2 := hM1.alloc (.cells #[.int .u64 (wd (S) 0), .int .u64 (wd (S) 1), .int .u64 (wd (S) 2), .int .u64 (wd (S) 3)] 24)
  have hZ2 := hZ1.alloc (.cells #[.int .u64 (wd (S) 0), .int .u64 (wd (S) 1), .int .u64 (wd (S) 2), .int .u64 (wd (S) 3)] 24)
  have hB2 := hB1.alloc hB1.size (.cells #[.int .u64 (wd (S) 0), .int .u64 (wd (S) 1), .int .u64 (wd (S) 2), .int .u64 (wd (S) 3)] 24)
  have nz := hZ1.lt
  have nm := hM1.lt
  clear hX0 hY0 hM0 hZ0 hB0 hb1 hM1 hZ1 hB1
  obtain ⟨s0, s1, s2, s3⟩ := row_c4 hS2
  obtain ⟨m0, m1, m2, m3⟩ := row_c4 hM2
  go_wp2_with fail
  refine (less_is S M true HL.out hSt hM _).mono ?_
  rintro e w3 ⟨rfl, hb3⟩
  clear s0 s1 s2 s3 m0 m1 m2 m3
  have hS3 := row_below hS2 hb3 hS2.lt
  have hM3 := row_below hM2 hb3 hM2.lt
  have hZ3 := row_below hZ2 hb3 hZ2.lt
  have hB3 := hB2.trans (hb3.mono hB2.size)
  clear hS2 hM2 hZ2 hB2 hb3
  obtain ⟨s0, s1, s2, s3⟩ := row_c4 hS3
  obtain ⟨m0, m1, m2, m3⟩ := row_c4 hM3
  obtain ⟨d0, d1, d2, d3⟩ := row_c4 hZ3
  obtain ⟨f0, f1, f2, f3⟩ := row_f4 hZ3
  go_wp2
  refine bodyPost_ret (results_cell_row rfl _ _ (w.heap.size + 1 + 1 + 1) 24 #[.int .u64 (wd (S) 0), .int .u64 (wd (S) 1), .int .u64 (wd (S) 2), .int .u64 (wd (S) 3)] (0, 0) _ rfl (blk4 (put4 hZ3 fun j => .int .u64 (wd S j))) Try.underlying24 rfl (by kernel_rfl)) rfl ⟨rfl, below_put4 hB3 (by omega) _ _ _ _⟩

set_option maxRecDepth 100000 in
set_option maxHeartbeats 2000000 in
theorem gadd_more (X Y M S D : Nat) (hX : X < top) (hY : Y < top) (hM : M < top) (hS : (X + Y) % top = S) (hu : decide (top ≤ X + Y) = false) (hl : decide (S < M) = false) (hD : (S + top - M) % top = D) (w : World) :
    Calls Try.prog 31 #[.agg #[.int .u64 (wd (X) 0), .int .u64 (wd (X) 1), .int .u64 (wd (X) 2), .int .u64 (wd (X) 3)], .agg #[.int .u64 (wd (Y) 0), .int .u64 (wd (Y) 1), .int .u64 (wd (Y) 2), .int .u64 (wd (Y) 3)], .agg #[.int .u64 (wd (M) 0), .int .u64 (wd (M) 1), .int .u64 (wd (M) 2), .int .u64 (wd (M) 3)]] w fun e w' => e = .returned (.agg #[.int .u64 (wd (D) 0), .int .u64 (wd (D) 1), .int .u64 (wd (D) 2), .int .u64 (wd (D) 3)]) ∧ Below w.heap.size w w' := by
  have hSt : S < top := by rw [← hS]; exact Nat.mod_lt _ top_pos
  have HS := veil hS
  have HU := veil hu
  have HL := veil hl
  have HD := veil hD
  clear hS hu hl hD
  have hX0 : ((((w.alloc (.cells #[.int .u64 (wd (X) 0), .int .u64 (wd (X) 1), .int .u64 (wd (X) 2), .int .u64 (wd (X) 3)] 24)).alloc (.cells #[.int .u64 (wd (Y) 0), .int .u64 (wd (Y) 1), .int .u64 (wd (Y) 2), .int .u64 (wd (Y) 3)] 24)).alloc (.cells #[.int .u64 (wd (M) 0), .int .u64 (wd (M) 1), .int .u64 (wd (M) 2), .int .u64 (wd (M) 3)] 24)).alloc (.cells #[.int .u64 0, .int .u64 0, .int .u64 0, .int .u64 0] 24)).rowIs w.heap.size 24 4 (fun j => .int .u64 (wd X j)) := (((row_new (n := 4) (by simp) rfl (arr4 fun j => .int .u64 (wd X j))).alloc _).alloc _).alloc _
  have hY0 : ((((w.alloc (.cells #[.int .u64 (wd (X) 0), .int .u64 (wd (X) 1), .int .u64 (wd (X) 2), .int .u64 (wd (X) 3)] 24)).alloc (.cells #[.int .u64 (wd (Y) 0), .int .u64 (wd (Y) 1), .int .u64 (wd (Y) 2), .int .u64 (wd (Y) 3)] 24)).alloc (.cells #[.int .u64 (wd (M) 0), .int .u64 (wd (M) 1), .int .u64 (wd (M) 2), .int .u64 (wd (M) 3)] 24)).alloc (.cells #[.int .u64 0, .int .u64 0, .int .u64 0, .int .u64 0] 24)).rowIs (w.heap.size + 1) 24 4 (fun j => .int .u64 (wd Y j)) := ((row_new (n := 4) (by simp) rfl (arr4 fun j => .int .u64 (wd Y j))).alloc _).alloc _
  have hM0 : ((((w.alloc (.cells #[.int .u64 (wd (X) 0), .int .u64 (wd (X) 1), .int .u64 (wd (X) 2), .int .u64 (wd (X) 3)] 24)).alloc (.cells #[.int .u64 (wd (Y) 0), .int .u64 (wd (Y) 1), .int .u64 (wd (Y) 2), .int .u64 (wd (Y) 3)] 24)).alloc (.cells #[.int .u64 (wd (M) 0), .int .u64 (wd (M) 1), .int .u64 (wd (M) 2), .int .u64 (wd (M) 3)] 24)).alloc (.cells #[.int .u64 0, .int .u64 0, .int .u64 0, .int .u64 0] 24)).rowIs (w.heap.size + 1 + 1) 24 4 (fun j => .int .u64 (wd M j)) := (row_new (n := 4) (by simp) rfl (arr4 fun j => .int .u64 (wd M j))).alloc _
  have hZ0 : ((((w.alloc (.cells #[.int .u64 (wd (X) 0), .int .u64 (wd (X) 1), .int .u64 (wd (X) 2), .int .u64 (wd (X) 3)] 24)).alloc (.cells #[.int .u64 (wd (Y) 0), .int .u64 (wd (Y) 1), .int .u64 (wd (Y) 2), .int .u64 (wd (Y) 3)] 24)).alloc (.cells #[.int .u64 (wd (M) 0), .int .u64 (wd (M) 1), .int .u64 (wd (M) 2), .int .u64 (wd (M) 3)] 24)).alloc (.cells #[.int .u64 0, .int .u64 0, .int .u64 0, .int .u64 0] 24)).rowIs (w.heap.size + 1 + 1 + 1) 24 4 (fun _ => .int .u64 0) := row_new (n := 4) (by simp) rfl (arr4 fun _ => .int .u64 0)
  have hB0 : Below w.heap.size w ((((w.alloc (.cells #[.int .u64 (wd (X) 0), .int .u64 (wd (X) 1), .int .u64 (wd (X) 2), .int .u64 (wd (X) 3)] 24)).alloc (.cells #[.int .u64 (wd (Y) 0), .int .u64 (wd (Y) 1), .int .u64 (wd (Y) 2), .int .u64 (wd (Y) 3)] 24)).alloc (.cells #[.int .u64 (wd (M) 0), .int .u64 (wd (M) 1), .int .u64 (wd (M) 2), .int .u64 (wd (M) 3)] 24)).alloc (.cells #[.int .u64 0, .int .u64 0, .int .u64 0, .int .u64 0] 24)) := ((((Below.refl _ _).alloc (by simp) _).alloc (by simp) _).alloc (by simp; omega) _).alloc (by simp; omega) _
  go_enter Try.func31, Try.ntmps31
  obtain ⟨a0, a1, a2, a3⟩ := row_c4 hX0
  obtain ⟨b0, b1, b2, b3⟩ := row_c4 hY0
  go_wp2_with fail
  refine (plus_is X Y S false HS.out HU.out hX hY _).mono ?_
  rintro e w1 ⟨rfl, hb1⟩
  clear a0 a1 a2 a3 b0 b1 b2 b3
  have hM1 := row_below hM0 hb1 hM0.lt
  have hZ1 := row_below hZ0 hb1 hZ0.lt
  have hB1 := hB0.trans (hb1.mono hB0.size)
  have hS2 : (w1.alloc (.cells #[.int .u64 (wd (S) 0), .int .u64 (wd (S) 1), .int .u64 (wd (S) 2), .int .u64 (wd (S) 3)] 24)).rowIs w1.heap.size 24 4 (fun j => .int .u64 (wd S j)) := row_new (n := 4) rfl rfl (arr4 fun j => .int .u64 (wd S j))
  have hM2 := hM1.alloc (.cells #[.int .u64 (wd (S) 0), .int .u64 (wd (S) 1), .int .u64 (wd (S) 2), .int .u64 (wd (S) 3)] 24)
  have hZ2 := hZ1.alloc (.cells #[.int .u64 (wd (S) 0), .int .u64 (wd (S) 1), .int .u64 (wd (S) 2), .int .u64 (wd (S) 3)] 24)
  have hB2 := hB1.alloc hB1.size (.cells #[.int .u64 (wd (S) 0), .int .u64 (wd (S) 1), .int .u64 (wd (S) 2), .int .u64 (wd (S) 3)] 24)
  have nz := hZ1.lt
  have nm := hM1.lt
  clear hX0 hY0 hM0 hZ0 hB0 hb1 hM1 hZ1 hB1
  obtain ⟨s0, s1, s2, s3⟩ := row_c4 hS2
  obtain ⟨m0, m1, m2, m3⟩ := row_c4 hM2
  go_wp2_with fail
  refine (less_is S M false HL.out hSt hM _).mono ?_
  rintro e w3 ⟨rfl, hb3⟩
  clear s0 s1 s2 s3 m0 m1 m2 m3
  have hS3 := row_below hS2 hb3 hS2.lt
  have hM3 := row_below hM2 hb3 hM2.lt
  have hZ3 := row_below hZ2 hb3 hZ2.lt
  have hB3 := hB2.trans (hb3.mono hB2.size)
  clear hS2 hM2 hZ2 hB2 hb3
  obtain ⟨s0, s1, s2, s3⟩ := row_c4 hS3
  obtain ⟨m0, m1, m2, m3⟩ := row_c4 hM3
  go_wp2_with fail
  refine (minus_is S M D HD.out hSt hM _).mono ?_
  rintro e w5 ⟨rfl, hb5⟩
  clear s0 s1 s2 s3 m0 m1 m2 m3
  have hS5 := row_below hS3 hb5 hS3.lt
  have hZ5 := row_below hZ3 hb5 hZ3.lt
  have hB5 := hB3.trans (hb5.mono hB3.size)
  clear hS3 hM3 hZ3 hB3 hb5
  obtain ⟨t0, t1, t2, t3⟩ := row_f4 hS5
  obtain ⟨v0, v1, v2, v3⟩ := row_c4 hS5
  go_upto_region 4 with (fail)
  have hTz := put4 hS5 (fun j => .int .u64 (wd D j))
  have hZz := row_far4 hZ5 (Nat.ne_of_lt nz) (.int .u64 (wd D 0)) (.int .u64 (wd D 1)) (.int .u64 (wd D 2)) (.int .u64 (wd D 3))
  have hBz := below_put4 (b := w1.heap.size) hB5 (by omega) (.int .u64 (wd D 0)) (.int .u64 (wd D 1)) (.int .u64 (wd D 2)) (.int .u64 (wd D 3))
  clear v0 v1 v2 v3 t0 t1 t2 t3 hS5 hZ5 hB5
  generalize ((((w5.setCell ⟨w1.heap.size, 0, none⟩ (.int .u64 (wd D 0))).setCell ⟨w1.heap.size, 1, none⟩ (.int .u64 (wd D 1))).setCell ⟨w1.heap.size, 2, none⟩ (.int .u64 (wd D 2))).setCell ⟨w1.heap.size, 3, none⟩ (.int .u64 (wd D 3))) = wz at *
  obtain ⟨p0, p1, p2, p3⟩ := row_c4 hTz
  obtain ⟨d0, d1, d2, d3⟩ := row_c4 hZz
  obtain ⟨f0, f1, f2, f3⟩ := row_f4 hZz
  go_wp2
  refine bodyPost_ret (results_cell_row rfl _ _ (w.heap.size + 1 + 1 + 1) 24 #[.int .u64 (wd (D) 0), .int .u64 (wd (D) 1), .int .u64 (wd (D) 2), .int .u64 (wd (D) 3)] (0, 0) _ rfl (blk4 (put4 hZz fun j => .int .u64 (wd D j))) Try.underlying24 rfl (by kernel_rfl)) rfl ⟨rfl, below_put4 hBz (by omega) _ _ _ _⟩

/-- clapperref02.Add of two numbers below M. -/
theorem gadd_calls (X Y M : Nat) (hX : X < M) (hY : Y < M) (hM : M < top) (w : World) :
    Calls Try.prog 31 #[.agg #[.int .u64 (wd (X) 0), .int .u64 (wd (X) 1), .int .u64 (wd (X) 2), .int .u64 (wd (X) 3)], .agg #[.int .u64 (wd (Y) 0), .int .u64 (wd (Y) 1), .int .u64 (wd (Y) 2), .int .u64 (wd (Y) 3)], .agg #[.int .u64 (wd (M) 0), .int .u64 (wd (M) 1), .int .u64 (wd (M) 2), .int .u64 (wd (M) 3)]] w fun e w' => e = .returned (.agg #[.int .u64 (wd ((X + Y) % M) 0), .int .u64 (wd ((X + Y) % M) 1), .int .u64 (wd ((X + Y) % M) 2), .int .u64 (wd ((X + Y) % M) 3)]) ∧ Below w.heap.size w w' := by
  have h := gsum_num hX hY (Nat.le_of_lt hM)
  by_cases h1 : top ≤ X + Y
  · rw [h, if_pos (Or.inl h1)]
    exact gadd_over X Y M _ _ (by omega) (by omega) hM rfl (by simpa using h1) rfl w
  · by_cases h2 : (X + Y) % top < M
    · rw [h, if_neg (by omega)]
      exact gadd_less X Y M _ (by omega) (by omega) hM rfl (by simpa using h1) (by simpa using h2) w
    · rw [h, if_pos (Or.inr h2)]
      exact gadd_more X Y M _ _ (by omega) (by omega) hM rfl (by simpa using h1) (by simpa using h2) rfl w
end Go.Proofs.Ytppfcdpokgnpfaa


/-
  clapperref02.Sub: the document's difference modulo a number.
-/
namespace Go.Proofs.Ytppfcdpokgnpfaa
open Go.RowKit

theorem keep_alloc {wz W : World} (o : Obj) (h : (∀ b o, b < wz.heap.size → W.cell? ⟨b, o, none⟩ = wz.cell? ⟨b, o, none⟩) ∧ Below wz.heap.size wz W) :
    (∀ b i, b < wz.heap.size → (W.alloc o).cell? ⟨b, i, none⟩ = wz.cell? ⟨b, i, none⟩) ∧ Below wz.heap.size wz (W.alloc o) :=
  keep_old (w' := W.alloc o) ((Below.refl _ _).alloc (Nat.le_refl _) o) h
theorem keep_fresh {wz : World} (o : Obj) : (∀ b i, b < wz.heap.size → (wz.alloc o).drew.cell? ⟨b, i, none⟩ = wz.cell? ⟨b, i, none⟩) ∧ Below wz.heap.size wz (wz.alloc o).drew :=
  keep_alloc o (keep_drew wz)
theorem keep_swap {wz W : World} {o o' : Obj} (h : (∀ b i, b < wz.heap.size → (W.alloc o).cell? ⟨b, i, none⟩ = wz.cell? ⟨b, i, none⟩) ∧ Below wz.heap.size wz (W.alloc o)) (hs : wz.heap.size ≤ W.heap.size) :
    (∀ b i, b < wz.heap.size → (W.alloc o').cell? ⟨b, i, none⟩ = wz.cell? ⟨b, i, none⟩) ∧ Below wz.heap.size wz (W.alloc o') := by
  have e : ∀ b, b < wz.heap.size → (W.alloc o').heap[b]? = (W.alloc o).heap[b]? := fun b hb => (Below.heap_alloc _ _ _ (by omega)).trans (Below.heap_alloc _ _ _ (by omega)).symm
  refine ⟨fun b i hb => Eq.trans ?_ (h.1 b i hb), ?_⟩
  · unfold World.cell?; simp only [e b hb]
  · exact ⟨h.2.os, h.2.tape, h.2.output, by have := h.2.size; simp at this ⊢; omega, fun b hb => (e b hb).trans (h.2.block b hb)⟩
theorem below_look {W w' : World} (hb : Below W.heap.size W w') : (∀ b o, b < W.heap.size → w'.cell? ⟨b, o, none⟩ = W.cell? ⟨b, o, none⟩) ∧ (∀ b o, b < W.heap.size → w'.frozen? ⟨b, o, none⟩ = W.frozen? ⟨b, o, none⟩) ∧ (∀ b, b < W.heap.size → b < w'.heap.size) :=
  ⟨fun b o h => hb.cell (p := ⟨b, o, none⟩) h, fun b o h => hb.frozen (p := ⟨b, o, none⟩) h, fun _ h => Nat.lt_of_lt_of_le h hb.size⟩
theorem keep_put4 {wz W : World} {g : Nat} {v0 v1 v2 v3 : Value} (hg : wz.heap.size ≤ g) (h : (∀ b o, b < wz.heap.size → W.cell? ⟨b, o, none⟩ = wz.cell? ⟨b, o, none⟩) ∧ Below wz.heap.size wz W) :
    (∀ b o, b < wz.heap.size → ((((W.setCell ⟨g, 0, none⟩ v0).setCell ⟨g, 1, none⟩ v1).setCell ⟨g, 2, none⟩ v2).setCell ⟨g, 3, none⟩ v3).cell? ⟨b, o, none⟩ = wz.cell? ⟨b, o, none⟩) ∧ Below wz.heap.size wz ((((W.setCell ⟨g, 0, none⟩ v0).setCell ⟨g, 1, none⟩ v1).setCell ⟨g, 2, none⟩ v2).setCell ⟨g, 3, none⟩ v3) :=
  ⟨fun b o hlt => (Below.cell (below_put4 (Below.refl wz.heap.size W) hg v0 v1 v2 v3) (p := ⟨b, o, none⟩) hlt).trans (h.1 b o hlt), below_put4 h.2 hg v0 v1 v2 v3⟩

set_option maxRecDepth 100000 in
set_option maxHeartbeats 20000000 in
theorem gsub_lo (X Y M D S : Nat) (hX : X < top) (hY : Y < top) (hM : M < top) (hl : decide (X < Y) = true) (hD : (X + top - Y) % top = D) (hS : (D + M) % top = S) (w : World) :
    Calls Try.prog 56 #[.agg #[.int .u64 (wd (X) 0), .int .u64 (wd (X) 1), .int .u64 (wd (X) 2), .int .u64 (wd (X) 3)], .agg #[.int .u64 (wd (Y) 0), .int .u64 (wd (Y) 1), .int .u64 (wd (Y) 2), .int .u64 (wd (Y) 3)], .agg #[.int .u64 (wd (M) 0), .int .u64 (wd (M) 1), .int .u64 (wd (M) 2), .int .u64 (wd (M) 3)]] w fun e w' => e = .returned (.agg #[.int .u64 (wd (S) 0), .int .u64 (wd (S) 1), .int .u64 (wd (S) 2), .int .u64 (wd (S) 3)]) ∧ Below w.heap.size w w' := by
  have HL := veil hl
  have HD := veil hD
  have hDt : D < top := by rw [← hD]; exact Nat.mod_lt _ top_pos
  have HS := veil hS
  clear hS
  clear hl hD
  have hX0 : ((((w.alloc (.cells #[.int .u64 (wd (X) 0), .int .u64 (wd (X) 1), .int .u64 (wd (X) 2), .int .u64 (wd (X) 3)] 24)).alloc (.cells #[.int .u64 (wd (Y) 0), .int .u64 (wd (Y) 1), .int .u64 (wd (Y) 2), .int .u64 (wd (Y) 3)] 24)).alloc (.cells #[.int .u64 (wd (M) 0), .int .u64 (wd (M) 1), .int .u64 (wd (M) 2), .int .u64 (wd (M) 3)] 24)).alloc (.cells #[.int .u64 0, .int .u64 0, .int .u64 0, .int .u64 0] 24)).rowIs w.heap.size 24 4 (fun j => .int .u64 (wd X j)) := (((row_new (n := 4) (by simp) rfl (arr4 fun j => .int .u64 (wd X j))).alloc _).alloc _).alloc _
  have hY0 : ((((w.alloc (.cells #[.int .u64 (wd (X) 0), .int .u64 (wd (X) 1), .int .u64 (wd (X) 2), .int .u64 (wd (X) 3)] 24)).alloc (.cells #[.int .u64 (wd (Y) 0), .int .u64 (wd (Y) 1), .int .u64 (wd (Y) 2), .int .u64 (wd (Y) 3)] 24)).alloc (.cells #[.int .u64 (wd (M) 0), .int .u64 (wd (M) 1), .int .u64 (wd (M) 2), .int .u64 (wd (M) 3)] 24)).alloc (.cells #[.int .u64 0, .int .u64 0, .int .u64 0, .int .u64 0] 24)).rowIs (w.heap.size + 1) 24 4 (fun j => .int .u64 (wd Y j)) := ((row_new (n := 4) (by simp) rfl (arr4 fun j => .int .u64 (wd Y j))).alloc _).alloc _
  have hM0 : ((((w.alloc (.cells #[.int .u64 (wd (X) 0), .int .u64 (wd (X) 1), .int .u64 (wd (X) 2), .int .u64 (wd (X) 3)] 24)).alloc (.cells #[.int .u64 (wd (Y) 0), .int .u64 (wd (Y) 1), .int .u64 (wd (Y) 2), .int .u64 (wd (Y) 3)] 24)).alloc (.cells #[.int .u64 (wd (M) 0), .int .u64 (wd (M) 1), .int .u64 (wd (M) 2), .int .u64 (wd (M) 3)] 24)).alloc (.cells #[.int .u64 0, .int .u64 0, .int .u64 0, .int .u64 0] 24)).rowIs (w.heap.size + 1 + 1) 24 4 (fun j => .int .u64 (wd M j)) := (row_new (n := 4) (by simp) rfl (arr4 fun j => .int .u64 (wd M j))).alloc _
  have hZ0 : ((((w.alloc (.cells #[.int .u64 (wd (X) 0), .int .u64 (wd (X) 1), .int .u64 (wd (X) 2), .int .u64 (wd (X) 3)] 24)).alloc (.cells #[.int .u64 (wd (Y) 0), .int .u64 (wd (Y) 1), .int .u64 (wd (Y) 2), .int .u64 (wd (Y) 3)] 24)).alloc (.cells #[.int .u64 (wd (M) 0), .int .u64 (wd (M) 1), .int .u64 (wd (M) 2), .int .u64 (wd (M) 3)] 24)).alloc (.cells #[.int .u64 0, .int .u64 0, .int .u64 0, .int .u64 0] 24)).rowIs (w.heap.size + 1 + 1 + 1) 24 4 (fun _ => .int .u64 0) := row_new (n := 4) (by simp) rfl (arr4 fun _ => .int .u64 0)
  have hB0 : Below w.heap.size w ((((w.alloc (.cells #[.int .u64 (wd (X) 0), .int .u64 (wd (X) 1), .int .u64 (wd (X) 2), .int .u64 (wd (X) 3)] 24)).alloc (.cells #[.int .u64 (wd (Y) 0), .int .u64 (wd (Y) 1), .int .u64 (wd (Y) 2), .int .u64 (wd (Y) 3)] 24)).alloc (.cells #[.int .u64 (wd (M) 0), .int .u64 (wd (M) 1), .int .u64 (wd (M) 2), .int .u64 (wd (M) 3)] 24)).alloc (.cells #[.int .u64 0, .int .u64 0, .int .u64 0, .int .u64 0] 24)) := ((((Below.refl _ _).alloc (by simp) _).alloc (by simp) _).alloc (by simp; omega) _).alloc (by simp; omega) _
  go_enter Try.func56, Try.ntmps56
  obtain ⟨a0, a1, a2, a3⟩ := row_c4 hX0
  obtain ⟨b0, b1, b2, b3⟩ := row_c4 hY0
  go_wp2_with fail
  refine (less_is X Y true HL.out hX hY _).mono ?_
  rintro e w1 ⟨rfl, hb1⟩
  clear a0 a1 a2 a3 b0 b1 b2 b3
  have hX1 := row_below hX0 hb1 hX0.lt
  have hY1 := row_below hY0 hb1 hY0.lt
  have hM1 := row_below hM0 hb1 hM0.lt
  have hZ1 := row_below hZ0 hb1 hZ0.lt
  have hB1 := hB0.trans (hb1.mono hB0.size)
  clear hX0 hY0 hM0 hZ0 hB0 hb1
  obtain ⟨a0, a1, a2, a3⟩ := row_c4 hX1
  obtain ⟨b0, b1, b2, b3⟩ := row_c4 hY1
  obtain ⟨m0, m1, m2, m3⟩ := row_c4 hM1
  go_wp2_with fail
  have z1 := hX1.lt
  have z2 := hY1.lt
  have z3 := hM1.lt
  have k1 := fun W => minus_is X Y D HD.out hX hY W
  have k2 := fun W => plus_is D M S _ HS.out rfl hDt hM W
  clear hX1 hY1 hM1
  go_region_held3 (fun w' => (∀ b o, b < w1.heap.size → w'.cell? ⟨b, o, none⟩ = w1.cell? ⟨b, o, none⟩) ∧ Below w1.heap.size w1 w')
    (first
      | with_reducible exact keep_drew _
      | with_reducible exact keep_fresh _
      | with_reducible exact keep_alloc _ (by assumption)
      | ((with_reducible refine keep_swap (by assumption) ?_); first | exact Nat.le_refl _ | exact hbm.size | exact Nat.le_trans hbm.size hbp.size)
      | ((with_reducible refine keep_put4 ?_ (by assumption)); first | exact Nat.le_refl _ | exact hbm.size | exact Nat.le_trans hbm.size hbp.size)
      | with_reducible exact keep_old (by assumption) (by assumption)
      | fail "no arm")
    (first
      | (go_at_call 55; refine (k1 _).mono ?_; rintro e wm ⟨rfl, hbm⟩; obtain ⟨hmc, hmf, hml⟩ := below_look hbm)
      | (go_at_call 53; refine (k2 _).mono ?_; rintro e wp ⟨rfl, hbp⟩; obtain ⟨hpc, hpf, hpl⟩ := below_look hbp))
  all_goals rename (_ ∧ Below w1.heap.size w1 _) => hHeld
  · have hT : (wp.alloc (.cells #[.int .u64 (wd (S) 0), .int .u64 (wd (S) 1), .int .u64 (wd (S) 2), .int .u64 (wd (S) 3)] 24)).rowIs wp.heap.size 24 4 (fun j => .int .u64 (wd S j)) := row_new (n := 4) rfl rfl (arr4 fun j => .int .u64 (wd S j))
    have hZz := row_below hZ1 hHeld.2 hZ1.lt
    have hBz := hB1.trans (hHeld.2.mono hB1.size)
    clear hHeld
    generalize wp.alloc (.cells #[.int .u64 (wd (S) 0), .int .u64 (wd (S) 1), .int .u64 (wd (S) 2), .int .u64 (wd (S) 3)] 24) = wz at *
    obtain ⟨p0, p1, p2, p3⟩ := row_c4 hT
    obtain ⟨d0, d1, d2, d3⟩ := row_c4 hZz
    obtain ⟨f0, f1, f2, f3⟩ := row_f4 hZz
    go_wp2
    refine bodyPost_ret (results_cell_row rfl _ _ (w.heap.size + 1 + 1 + 1) 24 #[.int .u64 (wd (S) 0), .int .u64 (wd (S) 1), .int .u64 (wd (S) 2), .int .u64 (wd (S) 3)] (0, 0) _ rfl (blk4 (put4 hZz fun j => .int .u64 (wd S j))) Try.underlying24 rfl (by kernel_rfl)) rfl ⟨rfl, below_put4 hBz (by omega) _ _ _ _⟩
  · have hT : ((((wp.setCell ⟨wm.heap.size, 0, none⟩ (.int .u64 (wd S 0))).setCell ⟨wm.heap.size, 1, none⟩ (.int .u64 (wd S 1))).setCell ⟨wm.heap.size, 2, none⟩ (.int .u64 (wd S 2))).setCell ⟨wm.heap.size, 3, none⟩ (.int .u64 (wd S 3))).rowIs wm.heap.size 24 4 (fun j => .int .u64 (wd S j)) := put4 (row_below (row_new (n := 4) (f := fun _ => .int .u64 0) rfl rfl (arr4 fun _ => .int .u64 0)) hbp (by simp)) fun j => .int .u64 (wd S j)
    have hZz := row_below hZ1 hHeld.2 hZ1.lt
    have hBz := hB1.trans (hHeld.2.mono hB1.size)
    clear hHeld
    generalize (((wp.setCell ⟨wm.heap.size, 0, none⟩ (.int .u64 (wd S 0))).setCell ⟨wm.heap.size, 1, none⟩ (.int .u64 (wd S 1))).setCell ⟨wm.heap.size, 2, none⟩ (.int .u64 (wd S 2))).setCell ⟨wm.heap.size, 3, none⟩ (.int .u64 (wd S 3)) = wz at *
    obtain ⟨p0, p1, p2, p3⟩ := row_c4 hT
    obtain ⟨d0, d1, d2, d3⟩ := row_c4 hZz
    obtain ⟨f0, f1, f2, f3⟩ := row_f4 hZz
    go_wp2
    refine bodyPost_ret (results_cell_row rfl _ _ (w.heap.size + 1 + 1 + 1) 24 #[.int .u64 (wd (S) 0), .int .u64 (wd (S) 1), .int .u64 (wd (S) 2), .int .u64 (wd (S) 3)] (0, 0) _ rfl (blk4 (put4 hZz fun j => .int .u64 (wd S j))) Try.underlying24 rfl (by kernel_rfl)) rfl ⟨rfl, below_put4 hBz (by omega) _ _ _ _⟩
  · have hT : ((((wp.setCell ⟨w1.heap.size, 0, none⟩ (.int .u64 (wd S 0))).setCell ⟨w1.heap.size, 1, none⟩ (.int .u64 (wd S 1))).setCell ⟨w1.heap.size, 2, none⟩ (.int .u64 (wd S 2))).setCell ⟨w1.heap.size, 3, none⟩ (.int .u64 (wd S 3))).rowIs w1.heap.size 24 4 (fun j => .int .u64 (wd S j)) := put4 (row_below (row_below ((row_new (n := 4) (f := fun _ => .int .u64 0) rfl rfl (arr4 fun _ => .int .u64 0)).drew) hbm (by simp)) hbp (Nat.lt_of_lt_of_le (by simp) hbm.size)) fun j => .int .u64 (wd S j)
    have hZz := row_below hZ1 hHeld.2 hZ1.lt
    have hBz := hB1.trans (hHeld.2.mono hB1.size)
    clear hHeld
    generalize (((wp.setCell ⟨w1.heap.size, 0, none⟩ (.int .u64 (wd S 0))).setCell ⟨w1.heap.size, 1, none⟩ (.int .u64 (wd S 1))).setCell ⟨w1.heap.size, 2, none⟩ (.int .u64 (wd S 2))).setCell ⟨w1.heap.size, 3, none⟩ (.int .u64 (wd S 3)) = wz at *
    obtain ⟨p0, p1, p2, p3⟩ := row_c4 hT
    obtain ⟨d0, d1, d2, d3⟩ := row_c4 hZz
    obtain ⟨f0, f1, f2, f3⟩ := row_f4 hZz
    go_wp2
    refine bodyPost_ret (results_cell_row rfl _ _ (w.heap.size + 1 + 1 + 1) 24 #[.int .u64 (wd (S) 0), .int .u64 (wd (S) 1), .int .u64 (wd (S) 2), .int .u64 (wd (S) 3)] (0, 0) _ rfl (blk4 (put4 hZz fun j => .int .u64 (wd S j))) Try.underlying24 rfl (by kernel_rfl)) rfl ⟨rfl, below_put4 hBz (by omega) _ _ _ _⟩

set_option maxRecDepth 100000 in
set_option maxHeartbeats 20000000 in
theorem gsub_hi (X Y M D : Nat) (hX : X < top) (hY : Y < top) (hl : decide (X < Y) = false) (hD : (X + top - Y) % top = D) (w : World) :
    Calls Try.prog 56 #[.agg #[.int .u64 (wd (X) 0), .int .u64 (wd (X) 1), .int .u64 (wd (X) 2), .int .u64 (wd (X) 3)], .agg #[.int .u64 (wd (Y) 0), .int .u64 (wd (Y) 1), .int .u64 (wd (Y) 2), .int .u64 (wd (Y) 3)], .agg #[.int .u64 (wd (M) 0), .int .u64 (wd (M) 1), .int .u64 (wd (M) 2), .int .u64 (wd (M) 3)]] w fun e w' => e = .returned (.agg #[.int .u64 (wd (D) 0), .int .u64 (wd (D) 1), .int .u64 (wd (D) 2), .int .u64 (wd (D) 3)]) ∧ Below w.heap.size w w' := by
  have HL := veil hl
  have HD := veil hD
  clear hl hD
  have hX0 : ((((w.alloc (.cells #[.int .u64 (wd (X) 0), .int .u64 (wd (X) 1), .int .u64 (wd (X) 2), .int .u64 (wd (X) 3)] 24)).alloc (.cells #[.int .u64 (wd (Y) 0), .int .u64 (wd (Y) 1), .int .u64 (wd (Y) 2), .int .u64 (wd (Y) 3)] 24)).alloc (.cells #[.int .u64 (wd (M) 0), .int .u64 (wd (M) 1), .int .u64 (wd (M) 2), .int .u64 (wd (M) 3)] 24)).alloc (.cells #[.int .u64 0, .int .u64 0, .int .u64 0, .int .u64 0] 24)).rowIs w.heap.size 24 4 (fun j => .int .u64 (wd X j)) := (((row_new (n := 4) (by simp) rfl (arr4 fun j => .int .u64 (wd X j))).alloc _).alloc _).alloc _
  have hY0 : ((((w.alloc (.cells #[.int .u64 (wd (X) 0), .int .u64 (wd (X) 1), .int .u64 (wd (X) 2), .int .u64 (wd (X) 3)] 24)).alloc (.cells #[.int .u64 (wd (Y) 0), .int .u64 (wd (Y) 1), .int .u64 (wd (Y) 2), .int .u64 (wd (Y) 3)] 24)).alloc (.cells #[.int .u64 (wd (M) 0), .int .u64 (wd (M) 1), .int .u64 (wd (M) 2), .int .u64 (wd (M) 3)] 24)).alloc (.cells #[.int .u64 0, .int .u64 0, .int .u64 0, .int .u64 0] 24)).rowIs (w.heap.size + 1) 24 4 (fun j => .int .u64 (wd Y j)) := ((row_new (n := 4) (by simp) rfl (arr4 fun j => .int .u64 (wd Y j))).alloc _).alloc _
  have hM0 : ((((w.alloc (.cells #[.int .u64 (wd (X) 0), .int .u64 (wd (X) 1), .int .u64 (wd (X) 2), .int .u64 (wd (X) 3)] 24)).alloc (.cells #[.int .u64 (wd (Y) 0), .int .u64 (wd (Y) 1), .int .u64 (wd (Y) 2), .int .u64 (wd (Y) 3)] 24)).alloc (.cells #[.int .u64 (wd (M) 0), .int .u64 (wd (M) 1), .int .u64 (wd (M) 2), .int .u64 (wd (M) 3)] 24)).alloc (.cells #[.int .u64 0, .int .u64 0, .int .u64 0, .int .u64 0] 24)).rowIs (w.heap.size + 1 + 1) 24 4 (fun j => .int .u64 (wd M j)) := (row_new (n := 4) (by simp) rfl (arr4 fun j => .int .u64 (wd M j))).alloc _
  have hZ0 : ((((w.alloc (.cells #[.int .u64 (wd (X) 0), .int .u64 (wd (X) 1), .int .u64 (wd (X) 2), .int .u64 (wd (X) 3)] 24)).alloc (.cells #[.int .u64 (wd (Y) 0), .int .u64 (wd (Y) 1), .int .u64 (wd (Y) 2), .int .u64 (wd (Y) 3)] 24)).alloc (.cells #[.int .u64 (wd (M) 0), .int .u64 (wd (M) 1), .int .u64 (wd (M) 2), .int .u64 (wd (M) 3)] 24)).alloc (.cells #[.int .u64 0, .int .u64 0, .int .u64 0, .int .u64 0] 24)).rowIs (w.heap.size + 1 + 1 + 1) 24 4 (fun _ => .int .u64 0) := row_new (n := 4) (by simp) rfl (arr4 fun _ => .int .u64 0)
  have hB0 : Below w.heap.size w ((((w.alloc (.cells #[.int .u64 (wd (X) 0), .int .u64 (wd (X) 1), .int .u64 (wd (X) 2), .int .u64 (wd (X) 3)] 24)).alloc (.cells #[.int .u64 (wd (Y) 0), .int .u64 (wd (Y) 1), .int .u64 (wd (Y) 2), .int .u64 (wd (Y) 3)] 24)).alloc (.cells #[.int .u64 (wd (M) 0), .int .u64 (wd (M) 1), .int .u64 (wd (M) 2), .int .u64 (wd (M) 3)] 24)).alloc (.cells #[.int .u64 0, .int .u64 0, .int .u64 0, .int .u64 0] 24)) := ((((Below.refl _ _).alloc (by simp) _).alloc (by simp) _).alloc (by simp; omega) _).alloc (by simp; omega) _
  go_enter Try.func56, Try.ntmps56
  obtain ⟨a0, a1, a2, a3⟩ := row_c4 hX0
  obtain ⟨b0, b1, b2, b3⟩ := row_c4 hY0
  go_wp2_with fail
  refine (less_is X Y false HL.out hX hY _).mono ?_
  rintro e w1 ⟨rfl, hb1⟩
  clear a0 a1 a2 a3 b0 b1 b2 b3
  have hX1 := row_below hX0 hb1 hX0.lt
  have hY1 := row_below hY0 hb1 hY0.lt
  have hM1 := row_below hM0 hb1 hM0.lt
  have hZ1 := row_below hZ0 hb1 hZ0.lt
  have hB1 := hB0.trans (hb1.mono hB0.size)
  clear hX0 hY0 hM0 hZ0 hB0 hb1
  obtain ⟨a0, a1, a2, a3⟩ := row_c4 hX1
  obtain ⟨b0, b1, b2, b3⟩ := row_c4 hY1
  obtain ⟨m0, m1, m2, m3⟩ := row_c4 hM1
  go_wp2_with fail
  refine (minus_is X Y D HD.out hX hY _).mono ?_
  rintro e w3 ⟨rfl, hb3⟩
  have hZz := row_below hZ1 hb3 hZ1.lt
  have hBz := hB1.trans (hb3.mono hB1.size)
  clear a0 a1 a2 a3 b0 b1 b2 b3 hX1 hY1 hM1 hZ1 hB1 hb3 m0 m1 m2 m3
  obtain ⟨d0, d1, d2, d3⟩ := row_c4 hZz
  obtain ⟨f0, f1, f2, f3⟩ := row_f4 hZz
  go_wp2
  refine bodyPost_ret (results_cell_row rfl _ _ (w.heap.size + 1 + 1 + 1) 24 #[.int .u64 (wd (D) 0), .int .u64 (wd (D) 1), .int .u64 (wd (D) 2), .int .u64 (wd (D) 3)] (0, 0) _ rfl (blk4 (put4 hZz fun j => .int .u64 (wd D j))) Try.underlying24 rfl (by kernel_rfl)) rfl ⟨rfl, below_put4 hBz (by omega) _ _ _ _⟩

/-- clapperref02.Sub of two numbers below M. -/
theorem gsub_calls (X Y M : Nat) (hX : X < M) (hY : Y < M) (hM : M < top) (w : World) :
    Calls Try.prog 56 #[.agg #[.int .u64 (wd (X) 0), .int .u64 (wd (X) 1), .int .u64 (wd (X) 2), .int .u64 (wd (X) 3)], .agg #[.int .u64 (wd (Y) 0), .int .u64 (wd (Y) 1), .int .u64 (wd (Y) 2), .int .u64 (wd (Y) 3)], .agg #[.int .u64 (wd (M) 0), .int .u64 (wd (M) 1), .int .u64 (wd (M) 2), .int .u64 (wd (M) 3)]] w fun e w' => e = .returned (.agg #[.int .u64 (wd ((X + M - Y) % M) 0), .int .u64 (wd ((X + M - Y) % M) 1), .int .u64 (wd ((X + M - Y) % M) 2), .int .u64 (wd ((X + M - Y) % M) 3)]) ∧ Below w.heap.size w w' := by
  by_cases h : X < Y
  · exact gsub_lo X Y M _ _ (by omega) (by omega) hM (by simpa using h) rfl (by rw [Nat.mod_eq_of_lt (a := X + top - Y) (by omega), show X + top - Y + M = (X + M - Y) + top by omega, Nat.add_mod_right, Nat.mod_eq_of_lt (by omega), Nat.mod_eq_of_lt (by omega)]) w
  · exact gsub_hi X Y M _ (by omega) (by omega) (by simpa using h) (by rw [show X + top - Y = (X - Y) + top by omega, Nat.add_mod_right, show X + M - Y = (X - Y) + M by omega, Nat.add_mod_right, Nat.mod_eq_of_lt (by omega), Nat.mod_eq_of_lt (by omega)]) w
end Go.Proofs.Ytppfcdpokgnpfaa


/-
  clapperref02.Mul: the document's product modulo a number: doubled and added, as the bits say.
-/
namespace Go.Proofs.Ytppfcdpokgnpfaa
open Go.RowKit

/-- Word i of Y, behind k shifts to the left. -/
def mw (Y i k : Nat) : Nat := dg w64 Y i * 2 ^ k % 2 ^ 64
theorem mw_zero (Y i : Nat) : mw Y i 0 = dg w64 Y i := by
  have := dg_lt w64_pos Y i
  unfold mw; rw [Nat.pow_zero, Nat.mul_one]; exact Nat.mod_eq_of_lt this
theorem mw_lt (Y i k : Nat) : mw Y i k < 18446744073709551616 := by
  unfold mw; exact Nat.mod_lt _ (by decide)
theorem mw_succ (Y i k : Nat) : (mw Y i k + mw Y i k) % 18446744073709551616 = mw Y i (k + 1) := by
  unfold mw
  show _ % 2 ^ 64 = _
  rw [← Nat.add_mod, Nat.pow_succ 2 k, ← Nat.mul_assoc, Nat.mul_two]
theorem mw_top (Y i k : Nat) (hk : k < 64) : 9223372036854775808 ≤ mw Y i k ↔ Y / 2 ^ (64 * i + (63 - k)) % 2 = 1 := by
  unfold mw dg
  obtain ⟨j, hj⟩ : ∃ j, j = 63 - k := ⟨_, rfl⟩
  have e64 : (2 : Nat) ^ 64 = 2 ^ (j + 1) * 2 ^ k := by rw [← Nat.pow_add]; congr 1; omega
  have e63 : (9223372036854775808 : Nat) = 2 ^ j * 2 ^ k := by rw [← Nat.pow_add, show j + k = 63 by omega]
  have hp : 0 < 2 ^ k := Nat.pow_pos (by omega)
  have hq : 0 < 2 ^ j := Nat.pow_pos (by omega)
  have ew : w64 ^ i = 2 ^ (64 * i) := by unfold w64; rw [show (18446744073709551616 : Nat) = 2 ^ 64 from rfl, ← Nat.pow_mul]
  rw [ew, ← hj, e64, e63, Nat.mul_mod_mul_right]
  rw [Nat.pow_add 2 (64 * i), ← Nat.div_div_eq_div_mul]
  generalize Y / 2 ^ (64 * i) = a
  have h1 : a % w64 % 2 ^ (j + 1) = a % 2 ^ (j + 1) := by
    apply Nat.mod_mod_of_dvd
    unfold w64; rw [show (18446744073709551616 : Nat) = 2 ^ (j + 1) * 2 ^ k from e64]
    exact Nat.dvd_mul_right _ _
  rw [h1, Nat.pow_succ, Nat.mod_mul]
  have h2 := Nat.mod_lt a hq
  generalize a / 2 ^ j = c
  generalize a % 2 ^ j = d at *
  generalize 2 ^ j = p at *
  generalize 2 ^ k = q at *
  constructor
  · intro h
    have h3 := Nat.le_of_mul_le_mul_right h hp
    have : c % 2 = 0 ∨ c % 2 = 1 := by omega
    rcases this with e | e
    · rw [e] at h3; omega
    · exact e
  · intro h
    rw [h]
    exact Nat.mul_le_mul_right _ (by omega)
/-- What the bits above place n are, one more. -/
theorem bits_step (Y n : Nat) : Y / 2 ^ n = 2 * (Y / 2 ^ (n + 1)) + Y / 2 ^ n % 2 := by
  rw [Nat.pow_succ, ← Nat.div_div_eq_div_mul]; omega

def acc (X Y M n : Nat) : Nat := X * (Y / 2 ^ n) % M
theorem acc_lt {X Y M n : Nat} (h : 0 < M) : acc X Y M n < M := Nat.mod_lt _ h
theorem acc_twice (X Y M n : Nat) (h : Y / 2 ^ n % 2 = 0) : (acc X Y M (n + 1) + acc X Y M (n + 1)) % M = acc X Y M n := by
  unfold acc
  rw [bits_step Y n, h, ← Nat.add_mod]
  congr 1
  generalize Y / 2 ^ (n + 1) = q
  rw [Nat.add_zero, Nat.mul_left_comm]; omega
theorem acc_more (X Y M n : Nat) (h : Y / 2 ^ n % 2 = 1) : ((acc X Y M (n + 1) + acc X Y M (n + 1)) % M + X) % M = acc X Y M n := by
  unfold acc
  rw [bits_step Y n, h, ← Nat.add_mod, Nat.mod_add_mod]
  congr 1
  rw [Nat.mul_add, Nat.mul_left_comm, Nat.mul_one]; omega
theorem acc_start (X Y M n : Nat) (h : Y < 2 ^ n) : acc X Y M n = 0 := by
  unfold acc; rw [Nat.div_eq_of_lt h]; simp
theorem acc_end (X Y M : Nat) : acc X Y M 0 = X * Y % M := by
  unfold acc; simp

set_option maxRecDepth 100000 in
set_option maxHeartbeats 4000000 in
theorem gmul_calls (X Y M : Nat) (hX : X < M) (hY : Y < top) (hM : M < top) (w : World) :
    Calls Try.prog 52 #[.agg #[.int .u64 (wd (X) 0), .int .u64 (wd (X) 1), .int .u64 (wd (X) 2), .int .u64 (wd (X) 3)], .agg #[.int .u64 (wd (Y) 0), .int .u64 (wd (Y) 1), .int .u64 (wd (Y) 2), .int .u64 (wd (Y) 3)], .agg #[.int .u64 (wd (M) 0), .int .u64 (wd (M) 1), .int .u64 (wd (M) 2), .int .u64 (wd (M) 3)]] w fun e w' => e = .returned (.agg #[.int .u64 (wd (X * Y % M) 0), .int .u64 (wd (X * Y % M) 1), .int .u64 (wd (X * Y % M) 2), .int .u64 (wd (X * Y % M) 3)]) ∧ Below w.heap.size w w' := by
  have hM0 : 0 < M := by omega
  obtain ⟨P, hP⟩ : ∃ P, P = X * Y % M := ⟨_, rfl⟩
  rw [← hP]
  have HP := veil hP
  clear hP
  have hA0 : (((((w.alloc (.cells #[.int .u64 (wd (X) 0), .int .u64 (wd (X) 1), .int .u64 (wd (X) 2), .int .u64 (wd (X) 3)] 24)).alloc (.cells #[.int .u64 (wd (Y) 0), .int .u64 (wd (Y) 1), .int .u64 (wd (Y) 2), .int .u64 (wd (Y) 3)] 24)).alloc (.cells #[.int .u64 (wd (M) 0), .int .u64 (wd (M) 1), .int .u64 (wd (M) 2), .int .u64 (wd (M) 3)] 24)).alloc (.cells #[.int .u64 0, .int .u64 0, .int .u64 0, .int .u64 0] 24)).alloc (.cells #[.int .u64 0, .int .u64 0, .int .u64 0, .int .u64 0] 24)).rowIs w.heap.size 24 4 (fun j => .int .u64 (wd X j)) := ((((row_new (n := 4) (by simp) rfl (arr4 fun j => .int .u64 (wd X j))).alloc _).alloc _).alloc _).alloc _
  have hB0 : (((((w.alloc (.cells #[.int .u64 (wd (X) 0), .int .u64 (wd (X) 1), .int .u64 (wd (X) 2), .int .u64 (wd (X) 3)] 24)).alloc (.cells #[.int .u64 (wd (Y) 0), .int .u64 (wd (Y) 1), .int .u64 (wd (Y) 2), .int .u64 (wd (Y) 3)] 24)).alloc (.cells #[.int .u64 (wd (M) 0), .int .u64 (wd (M) 1), .int .u64 (wd (M) 2), .int .u64 (wd (M) 3)] 24)).alloc (.cells #[.int .u64 0, .int .u64 0, .int .u64 0, .int .u64 0] 24)).alloc (.cells #[.int .u64 0, .int .u64 0, .int .u64 0, .int .u64 0] 24)).rowIs (w.heap.size + 1) 24 4 (fun j => .int .u64 (wd Y j)) := (((row_new (n := 4) (by simp) rfl (arr4 fun j => .int .u64 (wd Y j))).alloc _).alloc _).alloc _
  have hC0 : (((((w.alloc (.cells #[.int .u64 (wd (X) 0), .int .u64 (wd (X) 1), .int .u64 (wd (X) 2), .int .u64 (wd (X) 3)] 24)).alloc (.cells #[.int .u64 (wd (Y) 0), .int .u64 (wd (Y) 1), .int .u64 (wd (Y) 2), .int .u64 (wd (Y) 3)] 24)).alloc (.cells #[.int .u64 (wd (M) 0), .int .u64 (wd (M) 1), .int .u64 (wd (M) 2), .int .u64 (wd (M) 3)] 24)).alloc (.cells #[.int .u64 0, .int .u64 0, .int .u64 0, .int .u64 0] 24)).alloc (.cells #[.int .u64 0, .int .u64 0, .int .u64 0, .int .u64 0] 24)).rowIs (w.heap.size + 1 + 1) 24 4 (fun j => .int .u64 (wd M j)) := ((row_new (n := 4) (by simp) rfl (arr4 fun j => .int .u64 (wd M j))).alloc _).alloc _
  have hR0 : (((((w.alloc (.cells #[.int .u64 (wd (X) 0), .int .u64 (wd (X) 1), .int .u64 (wd (X) 2), .int .u64 (wd (X) 3)] 24)).alloc (.cells #[.int .u64 (wd (Y) 0), .int .u64 (wd (Y) 1), .int .u64 (wd (Y) 2), .int .u64 (wd (Y) 3)] 24)).alloc (.cells #[.int .u64 (wd (M) 0), .int .u64 (wd (M) 1), .int .u64 (wd (M) 2), .int .u64 (wd (M) 3)] 24)).alloc (.cells #[.int .u64 0, .int .u64 0, .int .u64 0, .int .u64 0] 24)).alloc (.cells #[.int .u64 0, .int .u64 0, .int .u64 0, .int .u64 0] 24)).rowIs (w.heap.size + 1 + 1 + 1) 24 4 (fun _ => .int .u64 0) := (row_new (n := 4) (by simp) rfl (arr4 fun _ => .int .u64 0)).alloc _
  have hO0 : (((((w.alloc (.cells #[.int .u64 (wd (X) 0), .int .u64 (wd (X) 1), .int .u64 (wd (X) 2), .int .u64 (wd (X) 3)] 24)).alloc (.cells #[.int .u64 (wd (Y) 0), .int .u64 (wd (Y) 1), .int .u64 (wd (Y) 2), .int .u64 (wd (Y) 3)] 24)).alloc (.cells #[.int .u64 (wd (M) 0), .int .u64 (wd (M) 1), .int .u64 (wd (M) 2), .int .u64 (wd (M) 3)] 24)).alloc (.cells #[.int .u64 0, .int .u64 0, .int .u64 0, .int .u64 0] 24)).alloc (.cells #[.int .u64 0, .int .u64 0, .int .u64 0, .int .u64 0] 24)).rowIs (w.heap.size + 1 + 1 + 1 + 1) 24 4 (fun _ => .int .u64 0) := row_new (n := 4) (by simp) rfl (arr4 fun _ => .int .u64 0)
  have hb0 : Below w.heap.size w (((((w.alloc (.cells #[.int .u64 (wd (X) 0), .int .u64 (wd (X) 1), .int .u64 (wd (X) 2), .int .u64 (wd (X) 3)] 24)).alloc (.cells #[.int .u64 (wd (Y) 0), .int .u64 (wd (Y) 1), .int .u64 (wd (Y) 2), .int .u64 (wd (Y) 3)] 24)).alloc (.cells #[.int .u64 (wd (M) 0), .int .u64 (wd (M) 1), .int .u64 (wd (M) 2), .int .u64 (wd (M) 3)] 24)).alloc (.cells #[.int .u64 0, .int .u64 0, .int .u64 0, .int .u64 0] 24)).alloc (.cells #[.int .u64 0, .int .u64 0, .int .u64 0, .int .u64 0] 24)) := (((((Below.refl _ _).alloc (by simp) _).alloc (by simp) _).alloc (by simp; omega) _).alloc (by simp; omega) _).alloc (by simp; omega) _
  go_enter Try.func52, Try.ntmps52
  go_wp2
  generalize (((((w.alloc (.cells #[.int .u64 (wd (X) 0), .int .u64 (wd (X) 1), .int .u64 (wd (X) 2), .int .u64 (wd (X) 3)] 24)).alloc (.cells #[.int .u64 (wd (Y) 0), .int .u64 (wd (Y) 1), .int .u64 (wd (Y) 2), .int .u64 (wd (Y) 3)] 24)).alloc (.cells #[.int .u64 (wd (M) 0), .int .u64 (wd (M) 1), .int .u64 (wd (M) 2), .int .u64 (wd (M) 3)] 24)).alloc (.cells #[.int .u64 0, .int .u64 0, .int .u64 0, .int .u64 0] 24)).alloc (.cells #[.int .u64 0, .int .u64 0, .int .u64 0, .int .u64 0] 24)) = w0 at *
  go_loopw [8] (fun i wr => ∃ k : Nat, k ≤ 4 ∧ i = .int .i64 ((k : Int) - 1) ∧ wr.rowIs w.heap.size 24 4 (fun j => .int .u64 (wd X j)) ∧ wr.rowIs (w.heap.size + 1) 24 4 (fun j => .int .u64 (wd Y j)) ∧ wr.rowIs (w.heap.size + 1 + 1) 24 4 (fun j => .int .u64 (wd M j)) ∧ wr.rowIs (w.heap.size + 1 + 1 + 1) 24 4 (fun _ => .int .u64 0) ∧ wr.rowIs (w.heap.size + 1 + 1 + 1 + 1) 24 4 (fun j => .int .u64 (wd (acc X Y M (64 * k)) j)) ∧ Below w.heap.size w wr)
    (fun i _ => (intOf i + 1).toNat)
  case atStart => exact ⟨4, by omega, rfl, hA0, hB0, hC0, hR0, hO0.congr (fun j hj => by rw [acc_start X Y M _ hY]; unfold wd dg; simp), hb0⟩
  case round =>
    obtain ⟨k, hk, hi, hA, hB, hC, hR, hO, hbel⟩ := hrel
    clear hA0 hB0 hC0 hR0 hO0 hb0
    cases k with
    | zero =>
      subst hi
      have hO := hO.congr (g := fun j => .int .u64 (wd P j)) (fun j _ => by rw [Nat.mul_zero, acc_end, ← HP.out])
      obtain ⟨o0, o1, o2, o3⟩ := row_c4 hO
      obtain ⟨d0, d1, d2, d3⟩ := row_c4 hR
      obtain ⟨f0, f1, f2, f3⟩ := row_f4 hR
      go_wp2
      refine bodyPost_ret (results_cell_row rfl _ _ (w.heap.size + 1 + 1 + 1) 24 #[.int .u64 (wd (P) 0), .int .u64 (wd (P) 1), .int .u64 (wd (P) 2), .int .u64 (wd (P) 3)] (0, 0) _ rfl (blk4 (put4 hR fun j => .int .u64 (wd P j))) Try.underlying24 rfl (by kernel_rfl)) rfl ⟨rfl, below_put4 hbel (by omega) _ _ _ _⟩
    | succ k =>
      obtain rfl : _ = Value.int .i64 (k : Int) := hi.trans (by congr 1; omega)
      clear hi
      have hk4 : k < 4 := by omega
      have c1 := hB.cell hk4
      go_wp2
      clear c1
      obtain ⟨wo, hwo⟩ : ∃ wo : World, wo = wr := ⟨_, rfl⟩
      rw [← hwo] at hA hB hC hR hO hbel ⊢
      clear hwo
      go_loopw [9, 10] (fun q kk wq => ∃ m : Nat, m ≤ 64 ∧ kk = .int .i64 m ∧ q = .int .u64 (mw Y k m : Nat) ∧ wq.rowIs w.heap.size 24 4 (fun j => .int .u64 (wd X j)) ∧ wq.rowIs (w.heap.size + 1) 24 4 (fun j => .int .u64 (wd Y j)) ∧ wq.rowIs (w.heap.size + 1 + 1) 24 4 (fun j => .int .u64 (wd M j)) ∧ wq.rowIs (w.heap.size + 1 + 1 + 1) 24 4 (fun _ => .int .u64 0) ∧ wq.rowIs (w.heap.size + 1 + 1 + 1 + 1) 24 4 (fun j => .int .u64 (wd (acc X Y M (64 * (k + 1) - m)) j)) ∧ Below w.heap.size w wq)
        (fun _ kk _ => 64 - (intOf kk).toNat)
      case atStart => exact ⟨0, by omega, rfl, by rw [mw_zero]; rfl, hA, hB, hC, hR, hO, hbel⟩
      case round =>
        obtain ⟨m, hm, rfl, rfl, hA, hB, hC, hR, hO, hbel⟩ := hrel
        by_cases hlt : m < 64
        · have hq := mw_lt Y k m
          have hs : IntKind.u64.wrap ((mw Y k m : Nat) + (mw Y k m : Nat)) = ((mw Y k (m + 1) : Nat) : Int) := by
            rw [IntKind.wrap_u64, ← mw_succ]; generalize mw Y k m = z; omega
          have ht := mw_top Y k m hlt
          obtain ⟨z, hz⟩ : ∃ z : Int, z = ((mw Y k m : Nat) : Int) := ⟨_, rfl⟩
          rw [← hz] at hs ⊢
          have hz0 : 0 ≤ z := by omega
          have hz1 : z < 18446744073709551616 := by omega
          obtain ⟨n, hn⟩ : ∃ n, n = 64 * k + (63 - m) := ⟨_, rfl⟩
          rw [← hn] at ht
          rw [show 64 * (k + 1) - m = n + 1 by omega] at hO
          have hVM := acc_lt (X := X) (Y := Y) (n := n + 1) hM0
          have e1 := acc_twice X Y M n
          have e2 := acc_more X Y M n
          generalize acc X Y M (n + 1) = V at *
          obtain ⟨D, hD⟩ : ∃ D, D = (V + V) % M := ⟨_, rfl⟩
          rw [← hD] at e1 e2
          have hDM : D < M := by rw [hD]; exact Nat.mod_lt _ hM0
          have h1 := fun W => gadd_calls V V M hVM hVM hM W
          rw [← hD] at h1
          have H1 := veil h1
          clear h1
          obtain ⟨o0, o1, o2, o3⟩ := row_c4 hO
          obtain ⟨c0, c1, c2, c3⟩ := row_c4 hC
          by_cases hbit : 9223372036854775808 ≤ mw Y k m
          · have h2 := fun W => gadd_calls D X M hDM hX hM W
            rw [e2 (ht.1 hbit)] at h2
            have H2 := veil h2
            have hbI : 9223372036854775808 ≤ z := by omega
            clear h2 e1 e2 hD ht hq hbit hz
            have hN := veil hn
            clear hn
            obtain ⟨T, hT⟩ : ∃ T, T = acc X Y M n := ⟨_, rfl⟩
            rw [← hT] at H2
            have HT := veil hT
            clear hT
            go_wp2_with fail
            refine (H1.out _).mono ?_
            rintro e w1 ⟨rfl, hb1⟩
            clear o0 o1 o2 o3 c0 c1 c2 c3
            replace hA := row_below hA hb1 hA.lt
            replace hB := row_below hB hb1 hB.lt
            replace hC := row_below hC hb1 hC.lt
            replace hR := row_below hR hb1 hR.lt
            replace hO := row_below hO hb1 hO.lt
            replace hbel := hbel.trans (hb1.mono hbel.size)
            clear hb1
            obtain ⟨o0, o1, o2, o3⟩ := row_c4 hO
            obtain ⟨f0, f1, f2, f3⟩ := row_f4 hO
            go_upto_region 10 with (fail)
            replace hA := row_far4 hA (b' := w.heap.size + 1 + 1 + 1 + 1) (by omega) (.int .u64 (wd D 0)) (.int .u64 (wd D 1)) (.int .u64 (wd D 2)) (.int .u64 (wd D 3))
            replace hB := row_far4 hB (b' := w.heap.size + 1 + 1 + 1 + 1) (by omega) (.int .u64 (wd D 0)) (.int .u64 (wd D 1)) (.int .u64 (wd D 2)) (.int .u64 (wd D 3))
            replace hC := row_far4 hC (b' := w.heap.size + 1 + 1 + 1 + 1) (by omega) (.int .u64 (wd D 0)) (.int .u64 (wd D 1)) (.int .u64 (wd D 2)) (.int .u64 (wd D 3))
            replace hR := row_far4 hR (b' := w.heap.size + 1 + 1 + 1 + 1) (by omega) (.int .u64 (wd D 0)) (.int .u64 (wd D 1)) (.int .u64 (wd D 2)) (.int .u64 (wd D 3))
            replace hbel := below_put4 (b := w.heap.size + 1 + 1 + 1 + 1) hbel (by omega) (.int .u64 (wd D 0)) (.int .u64 (wd D 1)) (.int .u64 (wd D 2)) (.int .u64 (wd D 3))
            replace hO := put4 hO (fun j => .int .u64 (wd D j))
            clear o0 o1 o2 o3 f0 f1 f2 f3
            generalize (((w1.setCell ⟨w.heap.size + 1 + 1 + 1 + 1, 0, none⟩ (.int .u64 (wd D 0))).setCell ⟨w.heap.size + 1 + 1 + 1 + 1, 1, none⟩ (.int .u64 (wd D 1))).setCell ⟨w.heap.size + 1 + 1 + 1 + 1, 2, none⟩ (.int .u64 (wd D 2))).setCell ⟨w.heap.size + 1 + 1 + 1 + 1, 3, none⟩ (.int .u64 (wd D 3)) = v1 at *
            obtain ⟨o0, o1, o2, o3⟩ := row_c4 hO
            obtain ⟨c0, c1, c2, c3⟩ := row_c4 hC
            obtain ⟨a0, a1, a2, a3⟩ := row_c4 hA
            go_wp2_with fail
            refine (H2.out _).mono ?_
            rintro e w2 ⟨rfl, hb2⟩
            clear o0 o1 o2 o3 c0 c1 c2 c3 a0 a1 a2 a3
            replace hA := row_below hA hb2 hA.lt
            replace hB := row_below hB hb2 hB.lt
            replace hC := row_below hC hb2 hC.lt
            replace hR := row_below hR hb2 hR.lt
            replace hO := row_below hO hb2 hO.lt
            replace hbel := hbel.trans (hb2.mono hbel.size)
            clear hb2
            obtain ⟨o0, o1, o2, o3⟩ := row_c4 hO
            obtain ⟨f0, f1, f2, f3⟩ := row_f4 hO
            go_upto_region 12 with (fail)
            replace hA := row_far4 hA (b' := w.heap.size + 1 + 1 + 1 + 1) (by omega) (.int .u64 (wd T 0)) (.int .u64 (wd T 1)) (.int .u64 (wd T 2)) (.int .u64 (wd T 3))
            replace hB := row_far4 hB (b' := w.heap.size + 1 + 1 + 1 + 1) (by omega) (.int .u64 (wd T 0)) (.int .u64 (wd T 1)) (.int .u64 (wd T 2)) (.int .u64 (wd T 3))
            replace hC := row_far4 hC (b' := w.heap.size + 1 + 1 + 1 + 1) (by omega) (.int .u64 (wd T 0)) (.int .u64 (wd T 1)) (.int .u64 (wd T 2)) (.int .u64 (wd T 3))
            replace hR := row_far4 hR (b' := w.heap.size + 1 + 1 + 1 + 1) (by omega) (.int .u64 (wd T 0)) (.int .u64 (wd T 1)) (.int .u64 (wd T 2)) (.int .u64 (wd T 3))
            replace hbel := below_put4 (b := w.heap.size + 1 + 1 + 1 + 1) hbel (by omega) (.int .u64 (wd T 0)) (.int .u64 (wd T 1)) (.int .u64 (wd T 2)) (.int .u64 (wd T 3))
            replace hO := put4 hO (fun j => .int .u64 (wd T j))
            clear o0 o1 o2 o3 f0 f1 f2 f3
            generalize (((w2.setCell ⟨w.heap.size + 1 + 1 + 1 + 1, 0, none⟩ (.int .u64 (wd T 0))).setCell ⟨w.heap.size + 1 + 1 + 1 + 1, 1, none⟩ (.int .u64 (wd T 1))).setCell ⟨w.heap.size + 1 + 1 + 1 + 1, 2, none⟩ (.int .u64 (wd T 2))).setCell ⟨w.heap.size + 1 + 1 + 1 + 1, 3, none⟩ (.int .u64 (wd T 3)) = v2 at *
            obtain ⟨o0, o1, o2, o3⟩ := row_c4 hO
            obtain ⟨c0, c1, c2, c3⟩ := row_c4 hC
            go_wp2
            go_roundw
            case rel => exact ⟨m + 1, by omega, by go_num, rfl, hA, hB, hC, hR, by rw [show 64 * (k + 1) - (m + 1) = n by have := hN.out; omega, ← HT.out]; exact hO, hbel⟩
            case measure => simp [intOf]; omega
          · have e1 := e1 (by have := ht.2; omega)
            have hbI : z < 9223372036854775808 := by omega
            have hN := veil hn
            have E1 := veil e1
            clear e1 e2 hD ht hq hbit hz hn
            go_wp2_with fail
            refine (H1.out _).mono ?_
            rintro e w1 ⟨rfl, hb1⟩
            clear o0 o1 o2 o3 c0 c1 c2 c3
            replace hA := row_below hA hb1 hA.lt
            replace hB := row_below hB hb1 hB.lt
            replace hC := row_below hC hb1 hC.lt
            replace hR := row_below hR hb1 hR.lt
            replace hO := row_below hO hb1 hO.lt
            replace hbel := hbel.trans (hb1.mono hbel.size)
            clear hb1
            obtain ⟨o0, o1, o2, o3⟩ := row_c4 hO
            obtain ⟨f0, f1, f2, f3⟩ := row_f4 hO
            go_upto_region 10 with (fail)
            replace hA := row_far4 hA (b' := w.heap.size + 1 + 1 + 1 + 1) (by omega) (.int .u64 (wd D 0)) (.int .u64 (wd D 1)) (.int .u64 (wd D 2)) (.int .u64 (wd D 3))
            replace hB := row_far4 hB (b' := w.heap.size + 1 + 1 + 1 + 1) (by omega) (.int .u64 (wd D 0)) (.int .u64 (wd D 1)) (.int .u64 (wd D 2)) (.int .u64 (wd D 3))
            replace hC := row_far4 hC (b' := w.heap.size + 1 + 1 + 1 + 1) (by omega) (.int .u64 (wd D 0)) (.int .u64 (wd D 1)) (.int .u64 (wd D 2)) (.int .u64 (wd D 3))
            replace hR := row_far4 hR (b' := w.heap.size + 1 + 1 + 1 + 1) (by omega) (.int .u64 (wd D 0)) (.int .u64 (wd D 1)) (.int .u64 (wd D 2)) (.int .u64 (wd D 3))
            replace hbel := below_put4 (b := w.heap.size + 1 + 1 + 1 + 1) hbel (by omega) (.int .u64 (wd D 0)) (.int .u64 (wd D 1)) (.int .u64 (wd D 2)) (.int .u64 (wd D 3))
            replace hO := put4 hO (fun j => .int .u64 (wd D j))
            clear o0 o1 o2 o3 f0 f1 f2 f3
            generalize (((w1.setCell ⟨w.heap.size + 1 + 1 + 1 + 1, 0, none⟩ (.int .u64 (wd D 0))).setCell ⟨w.heap.size + 1 + 1 + 1 + 1, 1, none⟩ (.int .u64 (wd D 1))).setCell ⟨w.heap.size + 1 + 1 + 1 + 1, 2, none⟩ (.int .u64 (wd D 2))).setCell ⟨w.heap.size + 1 + 1 + 1 + 1, 3, none⟩ (.int .u64 (wd D 3)) = v1 at *
            obtain ⟨o0, o1, o2, o3⟩ := row_c4 hO
            obtain ⟨c0, c1, c2, c3⟩ := row_c4 hC
            go_wp2
            go_roundw
            case rel => exact ⟨m + 1, by omega, by go_num, rfl, hA, hB, hC, hR, by rw [show 64 * (k + 1) - (m + 1) = n by have := hN.out; omega, ← E1.out]; exact hO, hbel⟩
            case measure => simp [intOf]; omega
        · obtain rfl : m = 64 := by omega
          go_wp2
          go_roundw
          case rel => exact ⟨k, by omega, by go_num, hA, hB, hC, hR, by rw [show 64 * (k + 1) - 64 = 64 * k by omega] at hO; exact hO, hbel⟩
          case measure => simp [intOf]
theorem num_wide (X : Nat) (h : X < top) : wd X 4 = 0 ∧ wd X 5 = 0 ∧ wd X 6 = 0 ∧ wd X 7 = 0 := by
  have e : ∀ i, 4 ≤ i → wd X i = 0 := by
    intro i hi
    unfold wd dg
    rw [Nat.div_eq_of_lt (Nat.lt_of_lt_of_le h (Nat.pow_le_pow_right w64_pos hi))]; rfl
  exact ⟨e 4 (by omega), e 5 (by omega), e 6 (by omega), e 7 (by omega)⟩
end Go.Proofs.Ytppfcdpokgnpfaa


/-
  clapperref02.half: half of a number modulo an odd one.
-/
namespace Go.Proofs.Ytppfcdpokgnpfaa
open Go.RowKit

theorem dg_half (X m : Nat) : dg w64 (X / 2) m = dg w64 X m / 2 + 9223372036854775808 * (dg w64 X (m + 1) % 2) := by
  unfold dg
  rw [Nat.pow_succ, ← Nat.div_div_eq_div_mul, Nat.div_div_eq_div_mul X 2, Nat.mul_comm 2, ← Nat.div_div_eq_div_mul]
  generalize X / w64 ^ m = q
  unfold w64
  omega
theorem wd_half_odd (X m : Nat) (h : wd X (m + 1) % 2 = 1) : wd X m / 2 + 9223372036854775808 = wd (X / 2) m := by
  have e := dg_half X m
  unfold wd at *
  rw [e]; generalize dg w64 X m = a at *; generalize dg w64 X (m + 1) = b at *; omega
theorem wd_half_even (X m : Nat) (h : wd X (m + 1) % 2 = 0) : wd X m / 2 = wd (X / 2) m := by
  have e := dg_half X m
  unfold wd at *
  rw [e]; generalize dg w64 X m = a at *; generalize dg w64 X (m + 1) = b at *; omega
theorem wd_half_top (X : Nat) (h : X < top) : wd X 3 / 2 = wd (X / 2) 3 :=
  wd_half_even X 3 (by rw [(num_wide X h).1]; rfl)
theorem row_mix2 {X Z k : Nat} {v : Value} (_hk : k < 4) : ∀ i, i < 4 → (if i = k then Value.int .u64 (wd Z k) else if i = k then v else Value.int .u64 (if i < k then wd Z i else wd X i)) = Value.int .u64 (if i < k + 1 then wd Z i else wd X i) := by
  intro i _
  by_cases h : i = k
  · subst h; simp
  · rw [if_neg h, if_neg h]; by_cases h2 : i < k
    · rw [if_pos h2, if_pos (by omega)]
    · rw [if_neg h2, if_neg (by omega)]
theorem wd_par (X : Nat) : wd X 0 % 2 = ((X % 2 : Nat) : Int) := by
  unfold wd dg w64; rw [Nat.pow_zero, Nat.div_one]; omega

/-- D is half of 2^256 + S. -/
def HalfTop (S D : Nat) : Prop := (∀ j, j < 3 → wd (S / 2) j = wd D j) ∧ wd (S / 2) 3 + 9223372036854775808 = wd D 3 ∧ wd (S / 2) 3 < 9223372036854775808
theorem halfTop {S : Nat} (h : S < top) : HalfTop S ((S + top) / 2) := by
  have h1 : ∀ j, j < 4 → dg w64 (S + top) j = dg w64 S j := by
    intro j hj
    have e := dg_mod (B := w64) (S + top) 4 j hj
    have e0 : (S + top) % w64 ^ 4 = S := by
      rw [show w64 ^ 4 = top from rfl, Nat.add_mod_right]; exact Nat.mod_eq_of_lt h
    rw [← e, e0]
  have h2 : dg w64 (S + top) 4 = 1 := by
    show (S + top) / top % w64 = 1
    rw [Nat.add_div_right _ top_pos, Nat.div_eq_of_lt h]; rfl
  have h3 : dg w64 S 4 = 0 := by
    show S / top % w64 = 0
    rw [Nat.div_eq_of_lt h]; rfl
  have hl := dg_lt w64_pos S 3
  have e3 := dg_half S 3
  have f3 := dg_half (S + top) 3
  rw [h3] at e3
  rw [h2, h1 3 (by omega)] at f3
  have hw : w64 = 18446744073709551616 := rfl
  refine ⟨fun j hj => ?_, ?_, ?_⟩
  · unfold wd; rw [dg_half, dg_half (S + top), h1 j (by omega), h1 (j + 1) (by omega)]
  · unfold wd; rw [e3, f3]; omega
  · unfold wd; rw [e3]; omega

set_option maxRecDepth 100000 in
set_option maxHeartbeats 4000000 in
theorem ghalf_even (X M : Nat) (hVt : X < top) (h : X % 2 = 0) (w : World) :
    Calls Try.prog 67 #[.agg #[.int .u64 (wd (X) 0), .int .u64 (wd (X) 1), .int .u64 (wd (X) 2), .int .u64 (wd (X) 3)], .agg #[.int .u64 (wd (M) 0), .int .u64 (wd (M) 1), .int .u64 (wd (M) 2), .int .u64 (wd (M) 3)]] w fun e w' => e = .returned (.agg #[.int .u64 (wd (X / 2) 0), .int .u64 (wd (X / 2) 1), .int .u64 (wd (X / 2) 2), .int .u64 (wd (X / 2) 3)]) ∧ Below w.heap.size w w' := by
  have hp : wd X 0 % 2 = 0 := by rw [wd_par, h]; rfl
  have hp0 := wd_lo X 0
  clear h
  have hA0 : (((w.alloc (.cells #[.int .u64 (wd (X) 0), .int .u64 (wd (X) 1), .int .u64 (wd (X) 2), .int .u64 (wd (X) 3)] 24)).alloc (.cells #[.int .u64 (wd (M) 0), .int .u64 (wd (M) 1), .int .u64 (wd (M) 2), .int .u64 (wd (M) 3)] 24)).alloc (.cells #[.int .u64 0, .int .u64 0, .int .u64 0, .int .u64 0] 24)).rowIs w.heap.size 24 4 (fun j => .int .u64 (wd X j)) := ((row_new (n := 4) (by simp) rfl (arr4 fun j => .int .u64 (wd X j))).alloc _).alloc _
  have hM0 : (((w.alloc (.cells #[.int .u64 (wd (X) 0), .int .u64 (wd (X) 1), .int .u64 (wd (X) 2), .int .u64 (wd (X) 3)] 24)).alloc (.cells #[.int .u64 (wd (M) 0), .int .u64 (wd (M) 1), .int .u64 (wd (M) 2), .int .u64 (wd (M) 3)] 24)).alloc (.cells #[.int .u64 0, .int .u64 0, .int .u64 0, .int .u64 0] 24)).rowIs (w.heap.size + 1) 24 4 (fun j => .int .u64 (wd M j)) := (row_new (n := 4) (by simp) rfl (arr4 fun j => .int .u64 (wd M j))).alloc _
  have hR0 : (((w.alloc (.cells #[.int .u64 (wd (X) 0), .int .u64 (wd (X) 1), .int .u64 (wd (X) 2), .int .u64 (wd (X) 3)] 24)).alloc (.cells #[.int .u64 (wd (M) 0), .int .u64 (wd (M) 1), .int .u64 (wd (M) 2), .int .u64 (wd (M) 3)] 24)).alloc (.cells #[.int .u64 0, .int .u64 0, .int .u64 0, .int .u64 0] 24)).rowIs (w.heap.size + 1 + 1) 24 4 (fun _ => .int .u64 0) := row_new (n := 4) (by simp) rfl (arr4 fun _ => .int .u64 0)
  have hb0 : Below w.heap.size w (((w.alloc (.cells #[.int .u64 (wd (X) 0), .int .u64 (wd (X) 1), .int .u64 (wd (X) 2), .int .u64 (wd (X) 3)] 24)).alloc (.cells #[.int .u64 (wd (M) 0), .int .u64 (wd (M) 1), .int .u64 (wd (M) 2), .int .u64 (wd (M) 3)] 24)).alloc (.cells #[.int .u64 0, .int .u64 0, .int .u64 0, .int .u64 0] 24)) := (((Below.refl _ _).alloc (by simp) _).alloc (by simp) _).alloc (by simp; omega) _
  go_enter Try.func67, Try.ntmps67
  go_wp2_with fail
  clear hp hp0 hM0
  generalize (((w.alloc (.cells #[.int .u64 (wd (X) 0), .int .u64 (wd (X) 1), .int .u64 (wd (X) 2), .int .u64 (wd (X) 3)] 24)).alloc (.cells #[.int .u64 (wd (M) 0), .int .u64 (wd (M) 1), .int .u64 (wd (M) 2), .int .u64 (wd (M) 3)] 24)).alloc (.cells #[.int .u64 0, .int .u64 0, .int .u64 0, .int .u64 0] 24)) = w0 at *
  go_loopw [6] (fun i wr => ∃ k : Nat, k ≤ 4 ∧ i = .int .i64 (k : Int) ∧ wr.rowIs w.heap.size 24 4 (fun j => .int .u64 (if j < k then wd (X / 2) j else wd X j)) ∧ wr.rowIs (w.heap.size + 1 + 1) 24 4 (fun _ => .int .u64 0) ∧ Below w.heap.size w wr)
    (fun i _ => 4 - (intOf i).toNat)
  case atStart => exact ⟨0, by omega, rfl, hA0.congr (fun j _ => by simp), hR0, hb0⟩
  case round =>
    obtain ⟨k, hk, rfl, hA, hR, hbel⟩ := hrel
    clear hA0 hR0 hb0
    by_cases hlt : k < 4
    · have c1 := hA.cell hlt
      rw [if_neg (by omega)] at c1
      have f1 := hA.frozen k
      have l1 := wd_lo X k
      have u1 := wd_le X k
      by_cases h3 : k < 3
      · have c2 := hA.cell (show k + 1 < 4 by omega)
        rw [if_neg (by omega)] at c2
        have h3i : (k : Int) < 3 := by omega
        have l2 := wd_lo X (k + 1)
        by_cases hb : wd X (k + 1) % 2 = 1
        · have HC := veil (wd_half_odd X k hb)
          go_wp2
          go_roundw
          case rel =>
            rw [HC.out]
            exact ⟨k + 1, by omega, by go_num, ((hA.set k _).set k _).congr (row_mix2 hlt), row_far (row_far hR (by omega) _) (by omega) _, below_set (below_set hbel (by omega) _) (by omega) _⟩
          case measure => simp [intOf]; omega
        · have hb0 : wd X (k + 1) % 2 = 0 := by omega
          have HC := veil (wd_half_even X k hb0)
          clear hb
          go_wp2
          go_roundw
          case rel =>
            rw [HC.out]
            exact ⟨k + 1, by omega, by go_num, (hA.set k _).congr (row_mix hlt), row_far hR (by omega) _, below_set hbel (by omega) _⟩
          case measure => simp [intOf]; omega
      · obtain rfl : k = 3 := by omega
        have HC := veil (wd_half_top X hVt)
        go_wp2
        go_roundw
        case rel =>
          rw [HC.out]
          exact ⟨4, by omega, by go_num, (hA.set 3 _).congr (row_mix (by omega)), row_far hR (by omega) _, below_set hbel (by omega) _⟩
        case measure => simp [intOf]
    · obtain rfl : k = 4 := by omega
      have hA := hA.congr (g := fun j => .int .u64 (wd (X / 2) j)) (fun j hj => by rw [if_pos hj])
      obtain ⟨a0, a1, a2, a3⟩ := row_c4 hA
      obtain ⟨d0, d1, d2, d3⟩ := row_c4 hR
      obtain ⟨f0, f1, f2, f3⟩ := row_f4 hR
      go_wp2
      refine bodyPost_ret (results_cell_row rfl _ _ (w.heap.size + 1 + 1) 24 #[.int .u64 (wd ((X / 2)) 0), .int .u64 (wd ((X / 2)) 1), .int .u64 (wd ((X / 2)) 2), .int .u64 (wd ((X / 2)) 3)] (0, 0) _ rfl (blk4 (put4 hR fun j => .int .u64 (wd (X / 2) j))) Try.underlying24 rfl (by kernel_rfl)) rfl ⟨rfl, below_put4 hbel (by omega) _ _ _ _⟩

set_option maxRecDepth 100000 in
set_option maxHeartbeats 4000000 in
theorem ghalf_no (X M S : Nat) (hX : X < top) (hM : M < top) (h : X % 2 = 1) (hS : (X + M) % top = S) (hu : decide (top ≤ X + M) = false) (w : World) :
    Calls Try.prog 67 #[.agg #[.int .u64 (wd (X) 0), .int .u64 (wd (X) 1), .int .u64 (wd (X) 2), .int .u64 (wd (X) 3)], .agg #[.int .u64 (wd (M) 0), .int .u64 (wd (M) 1), .int .u64 (wd (M) 2), .int .u64 (wd (M) 3)]] w fun e w' => e = .returned (.agg #[.int .u64 (wd ((S / 2)) 0), .int .u64 (wd ((S / 2)) 1), .int .u64 (wd ((S / 2)) 2), .int .u64 (wd ((S / 2)) 3)]) ∧ Below w.heap.size w w' := by
  have hp : wd X 0 % 2 = 1 := by rw [wd_par, h]; rfl
  have hp0 := wd_lo X 0
  have hVt : S < top := by rw [← hS]; exact Nat.mod_lt _ top_pos
  have HS := veil hS
  have HU := veil hu
  clear h hS hu
  have hA0 : (((w.alloc (.cells #[.int .u64 (wd (X) 0), .int .u64 (wd (X) 1), .int .u64 (wd (X) 2), .int .u64 (wd (X) 3)] 24)).alloc (.cells #[.int .u64 (wd (M) 0), .int .u64 (wd (M) 1), .int .u64 (wd (M) 2), .int .u64 (wd (M) 3)] 24)).alloc (.cells #[.int .u64 0, .int .u64 0, .int .u64 0, .int .u64 0] 24)).rowIs w.heap.size 24 4 (fun j => .int .u64 (wd X j)) := ((row_new (n := 4) (by simp) rfl (arr4 fun j => .int .u64 (wd X j))).alloc _).alloc _
  have hM0 : (((w.alloc (.cells #[.int .u64 (wd (X) 0), .int .u64 (wd (X) 1), .int .u64 (wd (X) 2), .int .u64 (wd (X) 3)] 24)).alloc (.cells #[.int .u64 (wd (M) 0), .int .u64 (wd (M) 1), .int .u64 (wd (M) 2), .int .u64 (wd (M) 3)] 24)).alloc (.cells #[.int .u64 0, .int .u64 0, .int .u64 0, .int .u64 0] 24)).rowIs (w.heap.size + 1) 24 4 (fun j => .int .u64 (wd M j)) := (row_new (n := 4) (by simp) rfl (arr4 fun j => .int .u64 (wd M j))).alloc _
  have hR0 : (((w.alloc (.cells #[.int .u64 (wd (X) 0), .int .u64 (wd (X) 1), .int .u64 (wd (X) 2), .int .u64 (wd (X) 3)] 24)).alloc (.cells #[.int .u64 (wd (M) 0), .int .u64 (wd (M) 1), .int .u64 (wd (M) 2), .int .u64 (wd (M) 3)] 24)).alloc (.cells #[.int .u64 0, .int .u64 0, .int .u64 0, .int .u64 0] 24)).rowIs (w.heap.size + 1 + 1) 24 4 (fun _ => .int .u64 0) := row_new (n := 4) (by simp) rfl (arr4 fun _ => .int .u64 0)
  have hb0 : Below w.heap.size w (((w.alloc (.cells #[.int .u64 (wd (X) 0), .int .u64 (wd (X) 1), .int .u64 (wd (X) 2), .int .u64 (wd (X) 3)] 24)).alloc (.cells #[.int .u64 (wd (M) 0), .int .u64 (wd (M) 1), .int .u64 (wd (M) 2), .int .u64 (wd (M) 3)] 24)).alloc (.cells #[.int .u64 0, .int .u64 0, .int .u64 0, .int .u64 0] 24)) := (((Below.refl _ _).alloc (by simp) _).alloc (by simp) _).alloc (by simp; omega) _
  go_enter Try.func67, Try.ntmps67
  obtain ⟨a0, a1, a2, a3⟩ := row_c4 hA0
  obtain ⟨c0, c1, c2, c3⟩ := row_c4 hM0
  go_wp2_with fail
  refine (plus_is X M S false HS.out HU.out hX hM _).mono ?_
  rintro e w1 ⟨rfl, hb1⟩
  clear a0 a1 a2 a3 c0 c1 c2 c3 hp hp0
  replace hA0 := row_below hA0 hb1 hA0.lt
  replace hR0 := row_below hR0 hb1 hR0.lt
  replace hb0 := hb0.trans (hb1.mono hb0.size)
  clear hb1 hM0
  obtain ⟨a0, a1, a2, a3⟩ := row_c4 hA0
  obtain ⟨f0, f1, f2, f3⟩ := row_f4 hA0
  go_wp2_with fail
  replace hR0 := row_far4 hR0 (b' := w.heap.size) (by omega) (.int .u64 (wd S 0)) (.int .u64 (wd S 1)) (.int .u64 (wd S 2)) (.int .u64 (wd S 3))
  replace hb0 := below_put4 (b := w.heap.size) hb0 (by omega) (.int .u64 (wd S 0)) (.int .u64 (wd S 1)) (.int .u64 (wd S 2)) (.int .u64 (wd S 3))
  replace hA0 := put4 hA0 (fun j => .int .u64 (wd S j))
  clear a0 a1 a2 a3 f0 f1 f2 f3
  generalize ((((w1.setCell ⟨w.heap.size, 0, none⟩ (.int .u64 (wd S 0))).setCell ⟨w.heap.size, 1, none⟩ (.int .u64 (wd S 1))).setCell ⟨w.heap.size, 2, none⟩ (.int .u64 (wd S 2))).setCell ⟨w.heap.size, 3, none⟩ (.int .u64 (wd S 3))) = w0 at *
  go_loopw [6] (fun i wr => ∃ k : Nat, k ≤ 4 ∧ i = .int .i64 (k : Int) ∧ wr.rowIs w.heap.size 24 4 (fun j => .int .u64 (if j < k then wd (S / 2) j else wd S j)) ∧ wr.rowIs (w.heap.size + 1 + 1) 24 4 (fun _ => .int .u64 0) ∧ Below w.heap.size w wr)
    (fun i _ => 4 - (intOf i).toNat)
  case atStart => exact ⟨0, by omega, rfl, hA0.congr (fun j _ => by simp), hR0, hb0⟩
  case round =>
    obtain ⟨k, hk, rfl, hA, hR, hbel⟩ := hrel
    clear hA0 hR0 hb0
    by_cases hlt : k < 4
    · have c1 := hA.cell hlt
      rw [if_neg (by omega)] at c1
      have f1 := hA.frozen k
      have l1 := wd_lo S k
      have u1 := wd_le S k
      by_cases h3 : k < 3
      · have c2 := hA.cell (show k + 1 < 4 by omega)
        rw [if_neg (by omega)] at c2
        have h3i : (k : Int) < 3 := by omega
        have l2 := wd_lo S (k + 1)
        by_cases hb : wd S (k + 1) % 2 = 1
        · have HC := veil (wd_half_odd S k hb)
          go_wp2
          go_roundw
          case rel =>
            rw [HC.out]
            exact ⟨k + 1, by omega, by go_num, ((hA.set k _).set k _).congr (row_mix2 hlt), row_far (row_far hR (by omega) _) (by omega) _, below_set (below_set hbel (by omega) _) (by omega) _⟩
          case measure => simp [intOf]; omega
        · have hb0 : wd S (k + 1) % 2 = 0 := by omega
          have HC := veil (wd_half_even S k hb0)
          clear hb
          go_wp2
          go_roundw
          case rel =>
            rw [HC.out]
            exact ⟨k + 1, by omega, by go_num, (hA.set k _).congr (row_mix hlt), row_far hR (by omega) _, below_set hbel (by omega) _⟩
          case measure => simp [intOf]; omega
      · obtain rfl : k = 3 := by omega
        have HC := veil (wd_half_top S hVt)
        go_wp2
        go_roundw
        case rel =>
          rw [HC.out]
          exact ⟨4, by omega, by go_num, (hA.set 3 _).congr (row_mix (by omega)), row_far hR (by omega) _, below_set hbel (by omega) _⟩
        case measure => simp [intOf]
    · obtain rfl : k = 4 := by omega
      have hA := hA.congr (g := fun j => .int .u64 (wd (S / 2) j)) (fun j hj => by rw [if_pos hj])
      obtain ⟨a0, a1, a2, a3⟩ := row_c4 hA
      obtain ⟨d0, d1, d2, d3⟩ := row_c4 hR
      obtain ⟨f0, f1, f2, f3⟩ := row_f4 hR
      go_wp2
      refine bodyPost_ret (results_cell_row rfl _ _ (w.heap.size + 1 + 1) 24 #[.int .u64 (wd ((S / 2)) 0), .int .u64 (wd ((S / 2)) 1), .int .u64 (wd ((S / 2)) 2), .int .u64 (wd ((S / 2)) 3)] (0, 0) _ rfl (blk4 (put4 hR fun j => .int .u64 (wd (S / 2) j))) Try.underlying24 rfl (by kernel_rfl)) rfl ⟨rfl, below_put4 hbel (by omega) _ _ _ _⟩

set_option maxRecDepth 100000 in
set_option maxHeartbeats 4000000 in
theorem ghalf_over (X M S : Nat) (D : Nat) (hD : HalfTop S D) (hX : X < top) (hM : M < top) (h : X % 2 = 1) (hS : (X + M) % top = S) (hu : decide (top ≤ X + M) = true) (w : World) :
    Calls Try.prog 67 #[.agg #[.int .u64 (wd (X) 0), .int .u64 (wd (X) 1), .int .u64 (wd (X) 2), .int .u64 (wd (X) 3)], .agg #[.int .u64 (wd (M) 0), .int .u64 (wd (M) 1), .int .u64 (wd (M) 2), .int .u64 (wd (M) 3)]] w fun e w' => e = .returned (.agg #[.int .u64 (wd (D) 0), .int .u64 (wd (D) 1), .int .u64 (wd (D) 2), .int .u64 (wd (D) 3)]) ∧ Below w.heap.size w w' := by
  have hp : wd X 0 % 2 = 1 := by rw [wd_par, h]; rfl
  have hp0 := wd_lo X 0
  have hVt : S < top := by rw [← hS]; exact Nat.mod_lt _ top_pos
  have HS := veil hS
  have HU := veil hu
  clear h hS hu
  have hA0 : (((w.alloc (.cells #[.int .u64 (wd (X) 0), .int .u64 (wd (X) 1), .int .u64 (wd (X) 2), .int .u64 (wd (X) 3)] 24)).alloc (.cells #[.int .u64 (wd (M) 0), .int .u64 (wd (M) 1), .int .u64 (wd (M) 2), .int .u64 (wd (M) 3)] 24)).alloc (.cells #[.int .u64 0, .int .u64 0, .int .u64 0, .int .u64 0] 24)).rowIs w.heap.size 24 4 (fun j => .int .u64 (wd X j)) := ((row_new (n := 4) (by simp) rfl (arr4 fun j => .int .u64 (wd X j))).alloc _).alloc _
  have hM0 : (((w.alloc (.cells #[.int .u64 (wd (X) 0), .int .u64 (wd (X) 1), .int .u64 (wd (X) 2), .int .u64 (wd (X) 3)] 24)).alloc (.cells #[.int .u64 (wd (M) 0), .int .u64 (wd (M) 1), .int .u64 (wd (M) 2), .int .u64 (wd (M) 3)] 24)).alloc (.cells #[.int .u64 0, .int .u64 0, .int .u64 0, .int .u64 0] 24)).rowIs (w.heap.size + 1) 24 4 (fun j => .int .u64 (wd M j)) := (row_new (n := 4) (by simp) rfl (arr4 fun j => .int .u64 (wd M j))).alloc _
  have hR0 : (((w.alloc (.cells #[.int .u64 (wd (X) 0), .int .u64 (wd (X) 1), .int .u64 (wd (X) 2), .int .u64 (wd (X) 3)] 24)).alloc (.cells #[.int .u64 (wd (M) 0), .int .u64 (wd (M) 1), .int .u64 (wd (M) 2), .int .u64 (wd (M) 3)] 24)).alloc (.cells #[.int .u64 0, .int .u64 0, .int .u64 0, .int .u64 0] 24)).rowIs (w.heap.size + 1 + 1) 24 4 (fun _ => .int .u64 0) := row_new (n := 4) (by simp) rfl (arr4 fun _ => .int .u64 0)
  have hb0 : Below w.heap.size w (((w.alloc (.cells #[.int .u64 (wd (X) 0), .int .u64 (wd (X) 1), .int .u64 (wd (X) 2), .int .u64 (wd (X) 3)] 24)).alloc (.cells #[.int .u64 (wd (M) 0), .int .u64 (wd (M) 1), .int .u64 (wd (M) 2), .int .u64 (wd (M) 3)] 24)).alloc (.cells #[.int .u64 0, .int .u64 0, .int .u64 0, .int .u64 0] 24)) := (((Below.refl _ _).alloc (by simp) _).alloc (by simp) _).alloc (by simp; omega) _
  go_enter Try.func67, Try.ntmps67
  obtain ⟨a0, a1, a2, a3⟩ := row_c4 hA0
  obtain ⟨c0, c1, c2, c3⟩ := row_c4 hM0
  go_wp2_with fail
  refine (plus_is X M S true HS.out HU.out hX hM _).mono ?_
  rintro e w1 ⟨rfl, hb1⟩
  clear a0 a1 a2 a3 c0 c1 c2 c3 hp hp0
  replace hA0 := row_below hA0 hb1 hA0.lt
  replace hR0 := row_below hR0 hb1 hR0.lt
  replace hb0 := hb0.trans (hb1.mono hb0.size)
  clear hb1 hM0
  obtain ⟨a0, a1, a2, a3⟩ := row_c4 hA0
  obtain ⟨f0, f1, f2, f3⟩ := row_f4 hA0
  go_wp2_with fail
  replace hR0 := row_far4 hR0 (b' := w.heap.size) (by omega) (.int .u64 (wd S 0)) (.int .u64 (wd S 1)) (.int .u64 (wd S 2)) (.int .u64 (wd S 3))
  replace hb0 := below_put4 (b := w.heap.size) hb0 (by omega) (.int .u64 (wd S 0)) (.int .u64 (wd S 1)) (.int .u64 (wd S 2)) (.int .u64 (wd S 3))
  replace hA0 := put4 hA0 (fun j => .int .u64 (wd S j))
  clear a0 a1 a2 a3 f0 f1 f2 f3
  generalize ((((w1.setCell ⟨w.heap.size, 0, none⟩ (.int .u64 (wd S 0))).setCell ⟨w.heap.size, 1, none⟩ (.int .u64 (wd S 1))).setCell ⟨w.heap.size, 2, none⟩ (.int .u64 (wd S 2))).setCell ⟨w.heap.size, 3, none⟩ (.int .u64 (wd S 3))) = w0 at *
  go_loopw [6] (fun i wr => ∃ k : Nat, k ≤ 4 ∧ i = .int .i64 (k : Int) ∧ wr.rowIs w.heap.size 24 4 (fun j => .int .u64 (if j < k then wd (S / 2) j else wd S j)) ∧ wr.rowIs (w.heap.size + 1 + 1) 24 4 (fun _ => .int .u64 0) ∧ Below w.heap.size w wr)
    (fun i _ => 4 - (intOf i).toNat)
  case atStart => exact ⟨0, by omega, rfl, hA0.congr (fun j _ => by simp), hR0, hb0⟩
  case round =>
    obtain ⟨k, hk, rfl, hA, hR, hbel⟩ := hrel
    clear hA0 hR0 hb0
    by_cases hlt : k < 4
    · have c1 := hA.cell hlt
      rw [if_neg (by omega)] at c1
      have f1 := hA.frozen k
      have l1 := wd_lo S k
      have u1 := wd_le S k
      by_cases h3 : k < 3
      · have c2 := hA.cell (show k + 1 < 4 by omega)
        rw [if_neg (by omega)] at c2
        have h3i : (k : Int) < 3 := by omega
        have l2 := wd_lo S (k + 1)
        by_cases hb : wd S (k + 1) % 2 = 1
        · have HC := veil (wd_half_odd S k hb)
          go_wp2
          go_roundw
          case rel =>
            rw [HC.out]
            exact ⟨k + 1, by omega, by go_num, ((hA.set k _).set k _).congr (row_mix2 hlt), row_far (row_far hR (by omega) _) (by omega) _, below_set (below_set hbel (by omega) _) (by omega) _⟩
          case measure => simp [intOf]; omega
        · have hb0 : wd S (k + 1) % 2 = 0 := by omega
          have HC := veil (wd_half_even S k hb0)
          clear hb
          go_wp2
          go_roundw
          case rel =>
            rw [HC.out]
            exact ⟨k + 1, by omega, by go_num, (hA.set k _).congr (row_mix hlt), row_far hR (by omega) _, below_set hbel (by omega) _⟩
          case measure => simp [intOf]; omega
      · obtain rfl : k = 3 := by omega
        have HC := veil (wd_half_top S hVt)
        go_wp2
        go_roundw
        case rel =>
          rw [HC.out]
          exact ⟨4, by omega, by go_num, (hA.set 3 _).congr (row_mix (by omega)), row_far hR (by omega) _, below_set hbel (by omega) _⟩
        case measure => simp [intOf]
    · obtain rfl : k = 4 := by omega
      have hA := hA.congr (g := fun j => .int .u64 (wd (S / 2) j)) (fun j hj => by rw [if_pos hj])
      obtain ⟨a0, a1, a2, a3⟩ := row_c4 hA
      obtain ⟨d0, d1, d2, d3⟩ := row_c4 hR
      obtain ⟨f0, f1, f2, f3⟩ := row_f4 hR
      have g3 := hA.frozen 3
      have l3 := wd_lo (S / 2) 3
      obtain ⟨hD, hD3, hD4⟩ := hD
      have HD := veil hD
      have HD3 := veil hD3
      clear hD hD3
      go_upto_region 11 with (fail)
      clear d0 d1 d2 d3 f0 f1 f2 f3
      go_upto_region 12 with (fail)
      rw [HD3.out]
      replace hR := row_far hR (b' := w.heap.size) (i := 3) (by omega) (.int .u64 (wd D 3))
      replace hbel := below_set hbel (b := w.heap.size) (i := 3) (by omega) (.int .u64 (wd D 3))
      replace hA := (hA.set 3 (.int .u64 (wd D 3))).congr (g := fun j => .int .u64 (wd D j)) (fun j hj => by
        by_cases e : j = 3
        · subst e; simp
        · rw [if_neg e, HD.out j (by omega)])
      clear a0 a1 a2 a3 g3
      generalize wr.setCell ⟨w.heap.size, 3, none⟩ (.int .u64 (wd D 3)) = wz at *
      obtain ⟨a0, a1, a2, a3⟩ := row_c4 hA
      obtain ⟨d0, d1, d2, d3⟩ := row_c4 hR
      obtain ⟨f0, f1, f2, f3⟩ := row_f4 hR
      go_wp2
      refine bodyPost_ret (results_cell_row rfl _ _ (w.heap.size + 1 + 1) 24 #[.int .u64 (wd (D) 0), .int .u64 (wd (D) 1), .int .u64 (wd (D) 2), .int .u64 (wd (D) 3)] (0, 0) _ rfl (blk4 (put4 hR fun j => .int .u64 (wd D j))) Try.underlying24 rfl (by kernel_rfl)) rfl ⟨rfl, below_put4 hbel (by omega) _ _ _ _⟩

/-- Half of X modulo M. -/
def hf (X M : Nat) : Nat := if X % 2 = 0 then X / 2 else (X + M) / 2
theorem hf_lt {X M : Nat} (h : X < M) : hf X M < M := by unfold hf; split <;> omega
/-- clapperref02.half of a number below M, which is odd. -/
theorem ghalf_calls (X M : Nat) (hX : X < M) (hM : M < top) (w : World) :
    Calls Try.prog 67 #[.agg #[.int .u64 (wd (X) 0), .int .u64 (wd (X) 1), .int .u64 (wd (X) 2), .int .u64 (wd (X) 3)], .agg #[.int .u64 (wd (M) 0), .int .u64 (wd (M) 1), .int .u64 (wd (M) 2), .int .u64 (wd (M) 3)]] w fun e w' => e = .returned (.agg #[.int .u64 (wd (hf X M) 0), .int .u64 (wd (hf X M) 1), .int .u64 (wd (hf X M) 2), .int .u64 (wd (hf X M) 3)]) ∧ Below w.heap.size w w' := by
  unfold hf
  by_cases h : X % 2 = 0
  · rw [if_pos h]; exact ghalf_even X M (by omega) h w
  · rw [if_neg h]
    by_cases h2 : top ≤ X + M
    · have e : (X + M) % top = X + M - top := by rw [Nat.mod_eq_sub_mod h2, Nat.mod_eq_of_lt (by omega)]
      have hd := halfTop (S := X + M - top) (by omega)
      rw [show X + M - top + top = X + M by omega] at hd
      exact ghalf_over X M _ _ hd (by omega) hM (by omega) e (by simpa using h2) w
    · have e : (X + M) % top = X + M := Nat.mod_eq_of_lt (by omega)
      exact ghalf_no X M _ (by omega) hM (by omega) e (by simpa using h2) w
end Go.Proofs.Ytppfcdpokgnpfaa


/-
  clapperref02.Inv: the inverse modulo an odd number, by halves and differences.
-/
namespace Go.Proofs.Ytppfcdpokgnpfaa
open Go.RowKit

theorem gcd_even (u v : Nat) (hu : u % 2 = 0) (hv : v % 2 = 1) : Nat.gcd (u / 2) v = Nat.gcd u v := by
  have hc : Nat.Coprime 2 v := by
    unfold Nat.Coprime
    rw [Nat.gcd_rec, hv]; rfl
  have e : u = 2 * (u / 2) := by omega
  conv => rhs; rw [e]
  exact (Nat.Coprime.gcd_mul_left_cancel (u / 2) hc).symm
theorem gcd_less (u v : Nat) (h : u ≤ v) : Nat.gcd (v - u) u = Nat.gcd u v := by
  rw [Nat.gcd_comm u v]
  have e : v = (v - u) + u := by omega
  conv => rhs; rw [e, Nat.gcd_add_self_left]

theorem cut_twice {M A B : Nat} (hM : M % 2 = 1) (h : 2 * A % M = 2 * B % M) : A % M = B % M := by
  have hM0 : 0 < M := by omega
  rw [Nat.mul_mod, ← Nat.mul_mod_mod, Nat.mod_mul_mod] at h
  rw [Nat.mul_mod 2 B, ← Nat.mul_mod_mod, Nat.mod_mul_mod] at h
  have ha := Nat.mod_lt A hM0
  have hb := Nat.mod_lt B hM0
  simp only [Nat.mod_mod] at h
  generalize A % M = a at *
  generalize B % M = b at *
  have e : ∀ c, c < M → 2 * c % M = if 2 * c < M then 2 * c else 2 * c - M := by
    intro c hc
    split
    · exact Nat.mod_eq_of_lt (by assumption)
    · rw [Nat.mod_eq_sub_mod (by omega), Nat.mod_eq_of_lt (by omega)]
  rw [e a ha, e b hb] at h
  split at h <;> split at h <;> omega
theorem cut_add {M A B C : Nat} (hM0 : 0 < M) (h : (A + C) % M = (B + C) % M) : A % M = B % M := by
  rw [Nat.add_mod, Nat.add_mod B] at h
  have ha := Nat.mod_lt A hM0
  have hb := Nat.mod_lt B hM0
  have hc := Nat.mod_lt C hM0
  generalize A % M = a at *
  generalize B % M = b at *
  generalize C % M = c at *
  have e : ∀ d, d < M → (d + c) % M = if d + c < M then d + c else d + c - M := by
    intro d hd
    split
    · exact Nat.mod_eq_of_lt (by assumption)
    · rw [Nat.mod_eq_sub_mod (by omega), Nat.mod_eq_of_lt (by omega)]
  rw [e a ha, e b hb] at h
  split at h <;> split at h <;> omega

/-- What Inv keeps. -/
structure Inv (a M r u v x y : Nat) : Prop where
  hx : x < M
  hy : y < M
  hu : u < top
  hv : v < top
  odd : v % 2 = 1
  ex : a * x % M = u % M
  ey : a * y % M = v % M
  g : Nat.gcd u v = Nat.gcd a M
  left : ∃ p q, u < 2 ^ p ∧ v < 2 ^ q ∧ r + 2 * (p + q) + u % 2 ≤ 1025
theorem inv_start {a M : Nat} (ha : a < M) (hM : M < top) (hM1 : 1 < M) (hodd : M % 2 = 1) : Inv a M 0 a M 1 0 :=
  ⟨hM1, by omega, by omega, hM, hodd, by rw [Nat.mul_one], by rw [Nat.mul_zero, Nat.zero_mod, Nat.mod_self], rfl, 256, 256, by show a < top; omega, hM, by omega⟩
theorem inv_even {a M r u v x y : Nat} (h : Inv a M r u v x y) (hodd : M % 2 = 1) (hu : u % 2 = 0) (h0 : u ≠ 0) : Inv a M (r + 1) (u / 2) v (hf x M) y := by
  obtain ⟨hx, hy, hut, hvt, odd, ex, ey, g, p, q, hp, hq, hl⟩ := h
  refine ⟨hf_lt hx, hy, by omega, hvt, odd, ?_, ey, by rw [gcd_even u v hu odd]; exact g, p - 1, q, ?_, hq, ?_⟩
  · apply cut_twice hodd
    rw [show 2 * (u / 2) = u by omega, ← ex]
    unfold hf
    split
    · rw [Nat.mul_left_comm, show 2 * (x / 2) = x by omega]
    · rw [Nat.mul_left_comm, show 2 * ((x + M) / 2) = x + M by omega, Nat.mul_add, Nat.add_mul_mod_self_right]
  · cases p with
    | zero => simp at hp; omega
    | succ p => rw [Nat.pow_succ] at hp; simp only [Nat.add_sub_cancel]; omega
  · cases p with
    | zero => simp at hp; omega
    | succ p => simp only [Nat.add_sub_cancel]; omega
theorem inv_more {a M r u v x y : Nat} (h : Inv a M r u v x y) (hu : u % 2 = 1) (hle : v ≤ u) : Inv a M (r + 1) (u - v) v ((x + M - y) % M) y := by
  obtain ⟨hx, hy, hut, hvt, odd, ex, ey, g, p, q, hp, hq, hl⟩ := h
  have hM0 : 0 < M := by omega
  refine ⟨Nat.mod_lt _ hM0, hy, by omega, hvt, odd, ?_, ey, by rw [gcd_less v u hle, Nat.gcd_comm]; exact g, p, q, by omega, hq, by omega⟩
  apply cut_add (C := v) hM0
  rw [Nat.sub_add_cancel hle, ← ex, Nat.add_mod, ← ey, ← Nat.add_mod, Nat.add_mod, Nat.mul_mod, Nat.mod_mod, ← Nat.mul_mod, ← Nat.add_mod, ← Nat.mul_add, show x + M - y + y = x + M by omega, Nat.mul_add, Nat.add_mul_mod_self_right]
theorem inv_less {a M r u v x y : Nat} (h : Inv a M r u v x y) (hu : u % 2 = 1) (hlt : u < v) : Inv a M (r + 1) (v - u) u ((y + M - x) % M) x := by
  obtain ⟨hx, hy, hut, hvt, odd, ex, ey, g, p, q, hp, hq, hl⟩ := h
  have h2 : Inv a M r v u y x := ⟨hy, hx, hvt, hut, hu, ey, ex, by rw [Nat.gcd_comm]; exact g, q, p, hq, hp, by omega⟩
  exact inv_more h2 odd (by omega)

structure Fr (w wr : World) (M : Nat) (fu : Nat → Value) (v x y : Nat) : Prop where
  mr : wr.rowIs (w.heap.size + 1) 24 4 (fun j => .int .u64 (wd M j))
  rr : wr.rowIs (w.heap.size + 1 + 1) 24 4 (fun _ => .int .u64 0)
  ur : wr.rowIs (w.heap.size + 1 + 1 + 1) 24 4 fu
  vr : wr.rowIs (w.heap.size + 1 + 1 + 1 + 1) 24 4 (fun j => .int .u64 (wd v j))
  xr : wr.rowIs (w.heap.size + 1 + 1 + 1 + 1 + 1) 24 4 (fun j => .int .u64 (wd x j))
  yr : wr.rowIs (w.heap.size + 1 + 1 + 1 + 1 + 1 + 1) 24 4 (fun j => .int .u64 (wd y j))
  zr : wr.rowIs (w.heap.size + 1 + 1 + 1 + 1 + 1 + 1 + 1) 24 4 (fun _ => .int .u64 0)
  b : Below w.heap.size w wr
theorem Fr.call {w wr : World} {M : Nat} {fu : Nat → Value} {v x y : Nat} {w' : World} (h : Fr w wr M fu v x y) (hb : Below wr.heap.size wr w') : Fr w w' M fu v x y :=
  ⟨row_below h.mr hb h.mr.lt, row_below h.rr hb h.rr.lt, row_below h.ur hb h.ur.lt, row_below h.vr hb h.vr.lt, row_below h.xr hb h.xr.lt, row_below h.yr hb h.yr.lt, row_below h.zr hb h.zr.lt, h.b.trans (hb.mono h.b.size)⟩
theorem Fr.alloc {w wr : World} {M : Nat} {fu : Nat → Value} {v x y : Nat} (h : Fr w wr M fu v x y) (o : Obj) : Fr w (wr.alloc o) M fu v x y :=
  ⟨h.mr.alloc o, h.rr.alloc o, h.ur.alloc o, h.vr.alloc o, h.xr.alloc o, h.yr.alloc o, h.zr.alloc o, h.b.alloc h.b.size o⟩
theorem Fr.putU {w wr : World} {M : Nat} {fu : Nat → Value} {v x y : Nat} (h : Fr w wr M fu v x y) (k : Nat) : Fr w ((((wr.setCell ⟨w.heap.size + 1 + 1 + 1, 0, none⟩ (.int .u64 (wd k 0))).setCell ⟨w.heap.size + 1 + 1 + 1, 1, none⟩ (.int .u64 (wd k 1))).setCell ⟨w.heap.size + 1 + 1 + 1, 2, none⟩ (.int .u64 (wd k 2))).setCell ⟨w.heap.size + 1 + 1 + 1, 3, none⟩ (.int .u64 (wd k 3))) M (fun j => .int .u64 (wd k j)) v x y :=
  ⟨row_far4 h.mr (by omega) _ _ _ _, row_far4 h.rr (by omega) _ _ _ _, put4 h.ur (fun j => .int .u64 (wd k j)), row_far4 h.vr (by omega) _ _ _ _, row_far4 h.xr (by omega) _ _ _ _, row_far4 h.yr (by omega) _ _ _ _, row_far4 h.zr (by omega) _ _ _ _, below_put4 h.b (by omega) _ _ _ _⟩
theorem Fr.putV {w wr : World} {M : Nat} {fu : Nat → Value} {v x y : Nat} (h : Fr w wr M fu v x y) (k : Nat) : Fr w ((((wr.setCell ⟨w.heap.size + 1 + 1 + 1 + 1, 0, none⟩ (.int .u64 (wd k 0))).setCell ⟨w.heap.size + 1 + 1 + 1 + 1, 1, none⟩ (.int .u64 (wd k 1))).setCell ⟨w.heap.size + 1 + 1 + 1 + 1, 2, none⟩ (.int .u64 (wd k 2))).setCell ⟨w.heap.size + 1 + 1 + 1 + 1, 3, none⟩ (.int .u64 (wd k 3))) M fu k x y :=
  ⟨row_far4 h.mr (by omega) _ _ _ _, row_far4 h.rr (by omega) _ _ _ _, row_far4 h.ur (by omega) _ _ _ _, put4 h.vr (fun j => .int .u64 (wd k j)), row_far4 h.xr (by omega) _ _ _ _, row_far4 h.yr (by omega) _ _ _ _, row_far4 h.zr (by omega) _ _ _ _, below_put4 h.b (by omega) _ _ _ _⟩
theorem Fr.putX {w wr : World} {M : Nat} {fu : Nat → Value} {v x y : Nat} (h : Fr w wr M fu v x y) (k : Nat) : Fr w ((((wr.setCell ⟨w.heap.size + 1 + 1 + 1 + 1 + 1, 0, none⟩ (.int .u64 (wd k 0))).setCell ⟨w.heap.size + 1 + 1 + 1 + 1 + 1, 1, none⟩ (.int .u64 (wd k 1))).setCell ⟨w.heap.size + 1 + 1 + 1 + 1 + 1, 2, none⟩ (.int .u64 (wd k 2))).setCell ⟨w.heap.size + 1 + 1 + 1 + 1 + 1, 3, none⟩ (.int .u64 (wd k 3))) M fu v k y :=
  ⟨row_far4 h.mr (by omega) _ _ _ _, row_far4 h.rr (by omega) _ _ _ _, row_far4 h.ur (by omega) _ _ _ _, row_far4 h.vr (by omega) _ _ _ _, put4 h.xr (fun j => .int .u64 (wd k j)), row_far4 h.yr (by omega) _ _ _ _, row_far4 h.zr (by omega) _ _ _ _, below_put4 h.b (by omega) _ _ _ _⟩
theorem Fr.putY {w wr : World} {M : Nat} {fu : Nat → Value} {v x y : Nat} (h : Fr w wr M fu v x y) (k : Nat) : Fr w ((((wr.setCell ⟨w.heap.size + 1 + 1 + 1 + 1 + 1 + 1, 0, none⟩ (.int .u64 (wd k 0))).setCell ⟨w.heap.size + 1 + 1 + 1 + 1 + 1 + 1, 1, none⟩ (.int .u64 (wd k 1))).setCell ⟨w.heap.size + 1 + 1 + 1 + 1 + 1 + 1, 2, none⟩ (.int .u64 (wd k 2))).setCell ⟨w.heap.size + 1 + 1 + 1 + 1 + 1 + 1, 3, none⟩ (.int .u64 (wd k 3))) M fu v x k :=
  ⟨row_far4 h.mr (by omega) _ _ _ _, row_far4 h.rr (by omega) _ _ _ _, row_far4 h.ur (by omega) _ _ _ _, row_far4 h.vr (by omega) _ _ _ _, row_far4 h.xr (by omega) _ _ _ _, put4 h.yr (fun j => .int .u64 (wd k j)), row_far4 h.zr (by omega) _ _ _ _, below_put4 h.b (by omega) _ _ _ _⟩
theorem Fr.putT {w wr : World} {M : Nat} {fu : Nat → Value} {v x y : Nat} {g : Nat} (h : Fr w wr M fu v x y) (hg : w.heap.size + 1 + 1 + 1 + 1 + 1 + 1 + 1 < g) (k : Nat) : Fr w ((((wr.setCell ⟨g, 0, none⟩ (.int .u64 (wd k 0))).setCell ⟨g, 1, none⟩ (.int .u64 (wd k 1))).setCell ⟨g, 2, none⟩ (.int .u64 (wd k 2))).setCell ⟨g, 3, none⟩ (.int .u64 (wd k 3))) M fu v x y :=
  ⟨row_far4 h.mr (by omega) _ _ _ _, row_far4 h.rr (by omega) _ _ _ _, row_far4 h.ur (by omega) _ _ _ _, row_far4 h.vr (by omega) _ _ _ _, row_far4 h.xr (by omega) _ _ _ _, row_far4 h.yr (by omega) _ _ _ _, row_far4 h.zr (by omega) _ _ _ _, below_put4 h.b (by omega) _ _ _ _⟩
theorem Fr.setU {w wr : World} {M : Nat} {fu : Nat → Value} {v x y : Nat} (h : Fr w wr M fu v x y) (i : Nat) (k : Value) : Fr w (wr.setCell ⟨w.heap.size + 1 + 1 + 1, i, none⟩ k) M (fun j => if j = i then k else fu j) v x y :=
  ⟨row_far h.mr (by omega) _, row_far h.rr (by omega) _, h.ur.set i k, row_far h.vr (by omega) _, row_far h.xr (by omega) _, row_far h.yr (by omega) _, row_far h.zr (by omega) _, below_set h.b (by omega) _⟩
theorem Fr.congrU {w wr : World} {M : Nat} {fu : Nat → Value} {v x y : Nat} {gu : Nat → Value} (h : Fr w wr M fu v x y) (e : ∀ j, j < 4 → fu j = gu j) : Fr w wr M gu v x y := ⟨h.mr, h.rr, h.ur.congr e, h.vr, h.xr, h.yr, h.zr, h.b⟩

theorem neq4 (f g : Nat → Int) (w : World) : (binOp .neq 24 (.agg #[.int .u64 (f 0), .int .u64 (f 1), .int .u64 (f 2), .int .u64 (f 3)]) (.agg #[.int .u64 (g 0), .int .u64 (g 1), .int .u64 (g 2), .int .u64 (g 3)])).run Try.prog w = .ok (.bool (!((List.range 4).all fun i => f i == g i))) w := by
  obtain ⟨i, hi⟩ : ∃ i, Try.prog.info? 22 = some i := Option.isSome_iff_exists.1 (by kernel_rfl)
  have hc : Try.prog.cellsOf 22 = 1 := by kernel_rfl
  rw [run_neq_struct, run_equalIn_array (P := Try.prog) w 9999 _ _ Try.underlying24 hi, hc]
  rw [run_items 9998 _ _ f g w _ (fun j hj => arr4 (fun j => .int .u64 (f j)) j (by simpa using hj)) (fun j hj => arr4 (fun j => .int .u64 (g j)) j (by simpa using hj))]
  rfl
/-- '!=' between a number and 0. -/
theorem neq_zero {X : Nat} (hX : X < top) (w : World) : (binOp .neq 24 (.agg #[.int .u64 (wd (X) 0), .int .u64 (wd (X) 1), .int .u64 (wd (X) 2), .int .u64 (wd (X) 3)]) (.agg #[.int .u64 0, .int .u64 0, .int .u64 0, .int .u64 0])).run Try.prog w = .ok (.bool (!decide (X = 0))) w := by
  have h := neq4 (wd X) (wd 0) w
  rw [all_wd 4 X 0] at h
  have e : (X % w64 ^ 4 = 0 % w64 ^ 4) = (X = 0) := by rw [Nat.mod_eq_of_lt (show X < w64 ^ 4 from hX), Nat.zero_mod]
  rw [decide_eq_decide.2 (iff_of_eq e)] at h
  have e0 : ∀ i, wd 0 i = 0 := by intro i; unfold wd dg; simp
  simpa [e0] using h
theorem eql_one {X : Nat} (hX : X < top) (w : World) : (binOp .eql 24 (.agg #[.int .u64 (wd (X) 0), .int .u64 (wd (X) 1), .int .u64 (wd (X) 2), .int .u64 (wd (X) 3)]) (.agg #[.int .u64 1, .int .u64 0, .int .u64 0, .int .u64 0])).run Try.prog w = .ok (.bool (decide (X = 1))) w := by
  have h := eql_num hX (show 1 < top by decide) w
  have o0 : wd 1 0 = 1 := by decide
  have o1 : wd 1 1 = 0 := by decide
  have o2 : wd 1 2 = 0 := by decide
  have o3 : wd 1 3 = 0 := by decide
  rw [o0, o1, o2, o3] at h
  exact h

set_option maxRecDepth 100000 in
set_option maxHeartbeats 4000000 in
theorem ginv_calls (X M : Nat) (hX : X < M) (hM1 : 1 < M) (hodd : M % 2 = 1) (hM : M < top) (w : World) :
    Calls Try.prog 39 #[.agg #[.int .u64 (wd (X) 0), .int .u64 (wd (X) 1), .int .u64 (wd (X) 2), .int .u64 (wd (X) 3)], .agg #[.int .u64 (wd (M) 0), .int .u64 (wd (M) 1), .int .u64 (wd (M) 2), .int .u64 (wd (M) 3)]] w fun e w' => ∃ y, y < M ∧ (Nat.gcd X M = 1 → X * y % M = 1) ∧ e = .returned (.tuple #[.agg #[.int .u64 (wd (y) 0), .int .u64 (wd (y) 1), .int .u64 (wd (y) 2), .int .u64 (wd (y) 3)], .bool (Nat.gcd X M == 1)]) ∧ Below w.heap.size w w' := by
  have hF0 : Fr w ((((((((w.alloc (.cells #[.int .u64 (wd (X) 0), .int .u64 (wd (X) 1), .int .u64 (wd (X) 2), .int .u64 (wd (X) 3)] 24)).alloc (.cells #[.int .u64 (wd (M) 0), .int .u64 (wd (M) 1), .int .u64 (wd (M) 2), .int .u64 (wd (M) 3)] 24)).alloc (.cells #[.int .u64 0, .int .u64 0, .int .u64 0, .int .u64 0] 24)).alloc (.cells #[.int .u64 (wd (X) 0), .int .u64 (wd (X) 1), .int .u64 (wd (X) 2), .int .u64 (wd (X) 3)] 24)).alloc (.cells #[.int .u64 (wd (M) 0), .int .u64 (wd (M) 1), .int .u64 (wd (M) 2), .int .u64 (wd (M) 3)] 24)).alloc (.cells #[.int .u64 1, .int .u64 0, .int .u64 0, .int .u64 0] 24)).alloc (.cells #[.int .u64 0, .int .u64 0, .int .u64 0, .int .u64 0] 24)).alloc (.cells #[.int .u64 0, .int .u64 0, .int .u64 0, .int .u64 0] 24)) M (fun j => .int .u64 (wd X j)) M 1 0 := ⟨(((((((row_new (n := 4) (f := (fun j => .int .u64 (wd M j))) (by simp) rfl (fun i hi => by match i, hi with | 0, _ => rfl | 1, _ => rfl | 2, _ => rfl | 3, _ => rfl)).alloc _).alloc _).alloc _).alloc _).alloc _).alloc _),
    ((((((row_new (n := 4) (f := (fun _ => .int .u64 0)) (by simp) rfl (fun i hi => by match i, hi with | 0, _ => rfl | 1, _ => rfl | 2, _ => rfl | 3, _ => rfl)).alloc _).alloc _).alloc _).alloc _).alloc _),
    (((((row_new (n := 4) (f := (fun j => .int .u64 (wd X j))) (by simp) rfl (fun i hi => by match i, hi with | 0, _ => rfl | 1, _ => rfl | 2, _ => rfl | 3, _ => rfl)).alloc _).alloc _).alloc _).alloc _),
    ((((row_new (n := 4) (f := (fun j => .int .u64 (wd M j))) (by simp) rfl (fun i hi => by match i, hi with | 0, _ => rfl | 1, _ => rfl | 2, _ => rfl | 3, _ => rfl)).alloc _).alloc _).alloc _),
    (((row_new (n := 4) (f := (fun j => .int .u64 (wd 1 j))) (by simp) rfl (fun i hi => by match i, hi with | 0, _ => rfl | 1, _ => rfl | 2, _ => rfl | 3, _ => rfl)).alloc _).alloc _),
    ((row_new (n := 4) (f := (fun j => .int .u64 (wd 0 j))) (by simp) rfl (fun i hi => by match i, hi with | 0, _ => rfl | 1, _ => rfl | 2, _ => rfl | 3, _ => rfl)).alloc _),
    (row_new (n := 4) (f := (fun _ => .int .u64 0)) (by simp) rfl (fun i hi => by match i, hi with | 0, _ => rfl | 1, _ => rfl | 2, _ => rfl | 3, _ => rfl)),
    (((((((((Below.refl _ _).alloc (by simp) _).alloc (by simp) _).alloc (by simp; omega) _).alloc (by simp; omega) _).alloc (by simp; omega) _).alloc (by simp; omega) _).alloc (by simp; omega) _).alloc (by simp; omega) _)⟩
  have hI0 := inv_start hX hM hM1 hodd
  have HM := veil (And.intro hM1 hodd)
  clear hX hM1 hodd
  go_enter Try.func39, Try.ntmps39
  go_wp2_with fail
  generalize ((((((((w.alloc (.cells #[.int .u64 (wd (X) 0), .int .u64 (wd (X) 1), .int .u64 (wd (X) 2), .int .u64 (wd (X) 3)] 24)).alloc (.cells #[.int .u64 (wd (M) 0), .int .u64 (wd (M) 1), .int .u64 (wd (M) 2), .int .u64 (wd (M) 3)] 24)).alloc (.cells #[.int .u64 0, .int .u64 0, .int .u64 0, .int .u64 0] 24)).alloc (.cells #[.int .u64 (wd (X) 0), .int .u64 (wd (X) 1), .int .u64 (wd (X) 2), .int .u64 (wd (X) 3)] 24)).alloc (.cells #[.int .u64 (wd (M) 0), .int .u64 (wd (M) 1), .int .u64 (wd (M) 2), .int .u64 (wd (M) 3)] 24)).alloc (.cells #[.int .u64 1, .int .u64 0, .int .u64 0, .int .u64 0] 24)).alloc (.cells #[.int .u64 0, .int .u64 0, .int .u64 0, .int .u64 0] 24)).alloc (.cells #[.int .u64 0, .int .u64 0, .int .u64 0, .int .u64 0] 24)) = w0 at *
  go_loopw [11] (fun i wr => ∃ r u v x y : Nat, i = .int .i64 (r : Int) ∧ Inv X M r u v x y ∧ Fr w wr M (fun j => .int .u64 (wd u j)) v x y)
    (fun i _ => 1100 - (intOf i).toNat)
  case atStart => exact ⟨0, X, M, 1, 0, rfl, hI0, hF0⟩
  case round =>
    obtain ⟨r, u, v, x, y, rfl, hI, hF⟩ := hrel
    clear hF0 hI0
    have hr : (r : Int) < 1100 := by obtain ⟨p, q, _, _, h⟩ := hI.left; omega
    obtain ⟨u0, u1, u2, u3⟩ := row_c4 hF.ur
    obtain ⟨z0, z1, z2, z3⟩ := row_c4 hF.zr
    have kz := fun W => neq_zero hI.hu W
    by_cases hu0 : u = 0
    · rw [show decide (u = 0) = true by simpa using hu0] at kz
      have HU := veil hu0
      clear hu0
      have hgv : Nat.gcd X M = v := by rw [← hI.g, HU.out, Nat.gcd_zero_left]
      obtain ⟨bb, hbb⟩ : ∃ bb, bb = decide (v = 1) := ⟨_, rfl⟩
      have k1 := fun W => eql_one hI.hv W
      rw [← hbb] at k1
      have HB := veil hbb
      have HG := veil hgv
      clear hbb hgv
      go_wp2_with fail
      obtain ⟨y0, y1, y2, y3⟩ := row_c4 hF.yr
      obtain ⟨v0, v1, v2, v3⟩ := row_c4 hF.vr
      obtain ⟨r0, r1, r2, r3⟩ := row_c4 hF.rr
      obtain ⟨f0, f1, f2, f3⟩ := row_f4 hF.rr
      go_region_held3 (fun w' => w'.cell? ⟨w.heap.size + 1 + 1 + 1 + 1 + 1 + 1, 0, none⟩ = some (.int .u64 (wd y 0)) ∧ w'.cell? ⟨w.heap.size + 1 + 1 + 1 + 1 + 1 + 1, 1, none⟩ = some (.int .u64 (wd y 1)) ∧ w'.cell? ⟨w.heap.size + 1 + 1 + 1 + 1 + 1 + 1, 2, none⟩ = some (.int .u64 (wd y 2)) ∧ w'.cell? ⟨w.heap.size + 1 + 1 + 1 + 1 + 1 + 1, 3, none⟩ = some (.int .u64 (wd y 3)) ∧ w'.cell? ⟨w.heap.size + 1 + 1 + 1 + 1, 0, none⟩ = some (.int .u64 (wd v 0)) ∧ w'.cell? ⟨w.heap.size + 1 + 1 + 1 + 1, 1, none⟩ = some (.int .u64 (wd v 1)) ∧ w'.cell? ⟨w.heap.size + 1 + 1 + 1 + 1, 2, none⟩ = some (.int .u64 (wd v 2)) ∧ w'.cell? ⟨w.heap.size + 1 + 1 + 1 + 1, 3, none⟩ = some (.int .u64 (wd v 3)))
        (go_keep)
        (fail)
      go_wp2
      refine bodyPost_ret (results_cell_tmp2 rfl _ _ (w.heap.size + 1 + 1) 24 #[.int .u64 (wd (y) 0), .int .u64 (wd (y) 1), .int .u64 (wd (y) 2), .int .u64 (wd (y) 3)] (0, 0) 4 22 rfl (blk4 (put4 hF.rr fun j => .int .u64 (wd y j)).drew) Try.underlying24 (by kernel_rfl)) rfl ⟨y, hI.hy, ?_, ?_, (below_put4 hF.b (by omega) _ _ _ _).drew⟩
      · intro hg
        rw [hI.ey, ← HG.out, hg, Nat.mod_eq_of_lt HM.out.1]
      · show Ending.returned (.tuple #[.agg #[.int .u64 (wd (y) 0), .int .u64 (wd (y) 1), .int .u64 (wd (y) 2), .int .u64 (wd (y) 3)], .bool bb]) = .returned (.tuple #[.agg #[.int .u64 (wd (y) 0), .int .u64 (wd (y) 1), .int .u64 (wd (y) 2), .int .u64 (wd (y) 3)], .bool (Nat.gcd X M == 1)])
        rw [HB.out, HG.out]
        rfl
    · rw [show decide (u = 0) = false by simpa using hu0] at kz
      have HU := veil hu0
      clear hu0
      have hp0 := wd_lo u 0
      by_cases hpar : u % 2 = 0
      · skip
        have hp : wd u 0 % 2 = 0 := by rw [wd_par, hpar]; rfl
        have HP := veil hpar
        clear hpar
        obtain ⟨K, hK⟩ : ∃ K, K = hf x M := ⟨_, rfl⟩
        have h1 := fun W => ghalf_calls x M hI.hx hM W
        rw [← hK] at h1
        have H1 := veil h1
        have HK := veil hK
        clear h1 hK
        clear u0 u1 u2 u3
        obtain ⟨u0, u1, u2, u3⟩ := row_c4 hF.ur
        obtain ⟨v0, v1, v2, v3⟩ := row_c4 hF.vr
        obtain ⟨x0, x1, x2, x3⟩ := row_c4 hF.xr
        obtain ⟨y0, y1, y2, y3⟩ := row_c4 hF.yr
        obtain ⟨m0, m1, m2, m3⟩ := row_c4 hF.mr
        obtain ⟨fu0, fu1, fu2, fu3⟩ := row_f4 hF.ur
        obtain ⟨fv0, fv1, fv2, fv3⟩ := row_f4 hF.vr
        obtain ⟨fx0, fx1, fx2, fx3⟩ := row_f4 hF.xr
        obtain ⟨fy0, fy1, fy2, fy3⟩ := row_f4 hF.yr
        go_wp2_with fail
        refine (H1.out _).mono ?_
        rintro e w1 ⟨rfl, hb1⟩
        clear u0 u1 u2 u3 v0 v1 v2 v3 x0 x1 x2 x3 y0 y1 y2 y3 m0 m1 m2 m3 fu0 fu1 fu2 fu3 fv0 fv1 fv2 fv3 fx0 fx1 fx2 fx3 fy0 fy1 fy2 fy3
        clear z0 z1 z2 z3
        replace hF := hF.call hb1
        clear hb1 kz hp hp0
        obtain ⟨u0, u1, u2, u3⟩ := row_c4 hF.ur
        obtain ⟨v0, v1, v2, v3⟩ := row_c4 hF.vr
        obtain ⟨x0, x1, x2, x3⟩ := row_c4 hF.xr
        obtain ⟨y0, y1, y2, y3⟩ := row_c4 hF.yr
        obtain ⟨m0, m1, m2, m3⟩ := row_c4 hF.mr
        obtain ⟨fu0, fu1, fu2, fu3⟩ := row_f4 hF.ur
        obtain ⟨fv0, fv1, fv2, fv3⟩ := row_f4 hF.vr
        obtain ⟨fx0, fx1, fx2, fx3⟩ := row_f4 hF.xr
        obtain ⟨fy0, fy1, fy2, fy3⟩ := row_f4 hF.yr
        go_upto_region 11 with (fail)
        clear u0 u1 u2 u3 v0 v1 v2 v3 x0 x1 x2 x3 y0 y1 y2 y3 m0 m1 m2 m3 fu0 fu1 fu2 fu3 fv0 fv1 fv2 fv3 fx0 fx1 fx2 fx3 fy0 fy1 fy2 fy3
        replace hF := hF.putX K
        generalize (((w1.setCell ⟨w.heap.size + 1 + 1 + 1 + 1 + 1, 0, none⟩ (.int .u64 (wd K 0))).setCell ⟨w.heap.size + 1 + 1 + 1 + 1 + 1, 1, none⟩ (.int .u64 (wd K 1))).setCell ⟨w.heap.size + 1 + 1 + 1 + 1 + 1, 2, none⟩ (.int .u64 (wd K 2))).setCell ⟨w.heap.size + 1 + 1 + 1 + 1 + 1, 3, none⟩ (.int .u64 (wd K 3)) = v1 at *
        go_wp2_with fail
        go_loopw [12] (fun i wr => ∃ k : Nat, k ≤ 4 ∧ i = .int .i64 (k : Int) ∧ Fr w wr M (fun j => .int .u64 (if j < k then wd (u / 2) j else wd u j)) v K y)
          (fun i _ => 4 - (intOf i).toNat)
        case atStart => exact ⟨0, by omega, rfl, hF.congrU (fun j _ => by simp)⟩
        case round =>
          obtain ⟨k, hk, rfl, hF⟩ := hrel
          by_cases hlt : k < 4
          · have c1 := hF.ur.cell hlt
            rw [if_neg (by omega)] at c1
            have f1 := hF.ur.frozen k
            have l1 := wd_lo u k
            have u1 := wd_le u k
            by_cases h3 : k < 3
            · have c2 := hF.ur.cell (show k + 1 < 4 by omega)
              rw [if_neg (by omega)] at c2
              have h3i : (k : Int) < 3 := by omega
              have l2 := wd_lo u (k + 1)
              by_cases hb : wd u (k + 1) % 2 = 1
              · have HC := veil (wd_half_odd u k hb)
                go_wp2
                go_roundw
                case rel =>
                  rw [HC.out]
                  exact ⟨k + 1, by omega, by go_num, ((hF.setU k _).setU k _).congrU (row_mix2 hlt)⟩
                case measure => simp [intOf]; omega
              · have hb0 : wd u (k + 1) % 2 = 0 := by omega
                have HC := veil (wd_half_even u k hb0)
                clear hb
                go_wp2
                go_roundw
                case rel =>
                  rw [HC.out]
                  exact ⟨k + 1, by omega, by go_num, (hF.setU k _).congrU (row_mix hlt)⟩
                case measure => simp [intOf]; omega
            · obtain rfl : k = 3 := by omega
              have HC := veil (wd_half_top u hI.hu)
              go_wp2
              go_roundw
              case rel =>
                rw [HC.out]
                exact ⟨4, by omega, by go_num, (hF.setU 3 _).congrU (row_mix (by omega))⟩
              case measure => simp [intOf]
          · obtain rfl : k = 4 := by omega
            go_wp2
            go_roundw
            case rel => exact ⟨r + 1, u / 2, v, K, y, by go_num, by rw [HK.out]; exact inv_even hI HM.out.2 HP.out HU.out, hF.congrU (fun j hj => by rw [if_pos hj])⟩
            case measure => simp [intOf]; omega
      · have hp : wd u 0 % 2 = 1 := by rw [wd_par, show u % 2 = 1 by omega]; rfl
        have HP := veil (show u % 2 = 1 by omega)
        clear hpar
        clear u0 u1 u2 u3
        by_cases hlt : u < v
        · skip
          have hD : (v + top - u) % top = v - u := by
            have := hI.hu; have := hI.hv
            rw [show v + top - u = (v - u) + top by omega, Nat.add_mod_right, Nat.mod_eq_of_lt (by omega)]
          obtain ⟨D, hDD⟩ : ∃ D, D = v - u := ⟨_, rfl⟩
          rw [← hDD] at hD
          have H2 := veil (fun W => minus_is v u D hD hI.hv hI.hu W)
          obtain ⟨K, hK⟩ : ∃ K, K = (y + M - x) % M := ⟨_, rfl⟩
          have h3 := fun W => gsub_calls y x M hI.hy hI.hx hM W
          rw [← hK] at h3
          have H3 := veil h3
          have H1 := veil (fun W => less_is u v true (by simpa using hlt) hI.hu hI.hv W)
          have HN := veil (inv_less hI HP.out hlt)
          rw [← hDD, ← hK] at HN
          clear hD hDD hK h3 hlt
          obtain ⟨u0, u1, u2, u3⟩ := row_c4 hF.ur
          obtain ⟨v0, v1, v2, v3⟩ := row_c4 hF.vr
          obtain ⟨x0, x1, x2, x3⟩ := row_c4 hF.xr
          obtain ⟨y0, y1, y2, y3⟩ := row_c4 hF.yr
          obtain ⟨m0, m1, m2, m3⟩ := row_c4 hF.mr
          obtain ⟨fu0, fu1, fu2, fu3⟩ := row_f4 hF.ur
          obtain ⟨fv0, fv1, fv2, fv3⟩ := row_f4 hF.vr
          obtain ⟨fx0, fx1, fx2, fx3⟩ := row_f4 hF.xr
          obtain ⟨fy0, fy1, fy2, fy3⟩ := row_f4 hF.yr
          go_wp2_with fail
          refine (H1.out _).mono ?_
          rintro e w1 ⟨rfl, hb1⟩
          clear u0 u1 u2 u3 v0 v1 v2 v3 x0 x1 x2 x3 y0 y1 y2 y3 m0 m1 m2 m3 fu0 fu1 fu2 fu3 fv0 fv1 fv2 fv3 fx0 fx1 fx2 fx3 fy0 fy1 fy2 fy3
          clear z0 z1 z2 z3
          replace hF := hF.call hb1
          clear hb1 kz hp hp0
          obtain ⟨u0, u1, u2, u3⟩ := row_c4 hF.ur
          obtain ⟨v0, v1, v2, v3⟩ := row_c4 hF.vr
          obtain ⟨x0, x1, x2, x3⟩ := row_c4 hF.xr
          obtain ⟨y0, y1, y2, y3⟩ := row_c4 hF.yr
          obtain ⟨m0, m1, m2, m3⟩ := row_c4 hF.mr
          obtain ⟨fu0, fu1, fu2, fu3⟩ := row_f4 hF.ur
          obtain ⟨fv0, fv1, fv2, fv3⟩ := row_f4 hF.vr
          obtain ⟨fx0, fx1, fx2, fx3⟩ := row_f4 hF.xr
          obtain ⟨fy0, fy1, fy2, fy3⟩ := row_f4 hF.yr
          go_upto_region 18 with (fail)
          go_upto_region 19 with (fail)
          clear u0 u1 u2 u3 v0 v1 v2 v3 x0 x1 x2 x3 y0 y1 y2 y3 m0 m1 m2 m3 fu0 fu1 fu2 fu3 fv0 fv1 fv2 fv3 fx0 fx1 fx2 fx3 fy0 fy1 fy2 fy3
          have hg := hF.zr.lt
          have hT : (w1.alloc (.cells #[.int .u64 (wd (u) 0), .int .u64 (wd (u) 1), .int .u64 (wd (u) 2), .int .u64 (wd (u) 3)] 24)).rowIs w1.heap.size 24 4 (fun j => .int .u64 (wd u j)) := row_new (n := 4) rfl rfl (arr4 fun j => .int .u64 (wd u j))
          replace hF := hF.alloc (.cells #[.int .u64 (wd (u) 0), .int .u64 (wd (u) 1), .int .u64 (wd (u) 2), .int .u64 (wd (u) 3)] 24)
          generalize w1.heap.size = g at *
          generalize w1.alloc (.cells #[.int .u64 (wd (u) 0), .int .u64 (wd (u) 1), .int .u64 (wd (u) 2), .int .u64 (wd (u) 3)] 24) = v1 at *
          obtain ⟨u0, u1, u2, u3⟩ := row_c4 hF.ur
          obtain ⟨v0, v1, v2, v3⟩ := row_c4 hF.vr
          obtain ⟨x0, x1, x2, x3⟩ := row_c4 hF.xr
          obtain ⟨y0, y1, y2, y3⟩ := row_c4 hF.yr
          obtain ⟨m0, m1, m2, m3⟩ := row_c4 hF.mr
          obtain ⟨fu0, fu1, fu2, fu3⟩ := row_f4 hF.ur
          obtain ⟨fv0, fv1, fv2, fv3⟩ := row_f4 hF.vr
          obtain ⟨fx0, fx1, fx2, fx3⟩ := row_f4 hF.xr
          obtain ⟨fy0, fy1, fy2, fy3⟩ := row_f4 hF.yr
          obtain ⟨t0, t1, t2, t3⟩ := row_c4 hT
          obtain ⟨ft0, ft1, ft2, ft3⟩ := row_f4 hT
          go_upto_region 20 with (fail)
          clear u0 u1 u2 u3 v0 v1 v2 v3 x0 x1 x2 x3 y0 y1 y2 y3 m0 m1 m2 m3 fu0 fu1 fu2 fu3 fv0 fv1 fv2 fv3 fx0 fx1 fx2 fx3 fy0 fy1 fy2 fy3 t0 t1 t2 t3 ft0 ft1 ft2 ft3
          replace hF := hF.putU v
          replace hT := row_far4 hT (b' := w.heap.size + 1 + 1 + 1) (by omega) (.int .u64 (wd v 0)) (.int .u64 (wd v 1)) (.int .u64 (wd v 2)) (.int .u64 (wd v 3))
          generalize (((v1.setCell ⟨w.heap.size + 1 + 1 + 1, 0, none⟩ (.int .u64 (wd v 0))).setCell ⟨w.heap.size + 1 + 1 + 1, 1, none⟩ (.int .u64 (wd v 1))).setCell ⟨w.heap.size + 1 + 1 + 1, 2, none⟩ (.int .u64 (wd v 2))).setCell ⟨w.heap.size + 1 + 1 + 1, 3, none⟩ (.int .u64 (wd v 3)) = v2 at *
          obtain ⟨u0, u1, u2, u3⟩ := row_c4 hF.ur
          obtain ⟨v0, v1, v2, v3⟩ := row_c4 hF.vr
          obtain ⟨x0, x1, x2, x3⟩ := row_c4 hF.xr
          obtain ⟨y0, y1, y2, y3⟩ := row_c4 hF.yr
          obtain ⟨m0, m1, m2, m3⟩ := row_c4 hF.mr
          obtain ⟨fu0, fu1, fu2, fu3⟩ := row_f4 hF.ur
          obtain ⟨fv0, fv1, fv2, fv3⟩ := row_f4 hF.vr
          obtain ⟨fx0, fx1, fx2, fx3⟩ := row_f4 hF.xr
          obtain ⟨fy0, fy1, fy2, fy3⟩ := row_f4 hF.yr
          obtain ⟨t0, t1, t2, t3⟩ := row_c4 hT
          obtain ⟨ft0, ft1, ft2, ft3⟩ := row_f4 hT
          go_upto_region 21 with (fail)
          clear u0 u1 u2 u3 v0 v1 v2 v3 x0 x1 x2 x3 y0 y1 y2 y3 m0 m1 m2 m3 fu0 fu1 fu2 fu3 fv0 fv1 fv2 fv3 fx0 fx1 fx2 fx3 fy0 fy1 fy2 fy3 t0 t1 t2 t3 ft0 ft1 ft2 ft3
          replace hF := hF.putV u
          replace hT := row_far4 hT (b' := w.heap.size + 1 + 1 + 1 + 1) (by omega) (.int .u64 (wd u 0)) (.int .u64 (wd u 1)) (.int .u64 (wd u 2)) (.int .u64 (wd u 3))
          generalize (((v2.setCell ⟨w.heap.size + 1 + 1 + 1 + 1, 0, none⟩ (.int .u64 (wd u 0))).setCell ⟨w.heap.size + 1 + 1 + 1 + 1, 1, none⟩ (.int .u64 (wd u 1))).setCell ⟨w.heap.size + 1 + 1 + 1 + 1, 2, none⟩ (.int .u64 (wd u 2))).setCell ⟨w.heap.size + 1 + 1 + 1 + 1, 3, none⟩ (.int .u64 (wd u 3)) = v3 at *
          obtain ⟨u0, u1, u2, u3⟩ := row_c4 hF.ur
          obtain ⟨v0, v1, v2, v3⟩ := row_c4 hF.vr
          obtain ⟨x0, x1, x2, x3⟩ := row_c4 hF.xr
          obtain ⟨y0, y1, y2, y3⟩ := row_c4 hF.yr
          obtain ⟨m0, m1, m2, m3⟩ := row_c4 hF.mr
          obtain ⟨fu0, fu1, fu2, fu3⟩ := row_f4 hF.ur
          obtain ⟨fv0, fv1, fv2, fv3⟩ := row_f4 hF.vr
          obtain ⟨fx0, fx1, fx2, fx3⟩ := row_f4 hF.xr
          obtain ⟨fy0, fy1, fy2, fy3⟩ := row_f4 hF.yr
          obtain ⟨t0, t1, t2, t3⟩ := row_c4 hT
          obtain ⟨ft0, ft1, ft2, ft3⟩ := row_f4 hT
          go_upto_region 22 with (fail)
          clear u0 u1 u2 u3 v0 v1 v2 v3 x0 x1 x2 x3 y0 y1 y2 y3 m0 m1 m2 m3 fu0 fu1 fu2 fu3 fv0 fv1 fv2 fv3 fx0 fx1 fx2 fx3 fy0 fy1 fy2 fy3 t0 t1 t2 t3 ft0 ft1 ft2 ft3
          replace hT := put4 hT (fun j => .int .u64 (wd x j))
          replace hF := hF.putT hg x
          generalize (((v3.setCell ⟨g, 0, none⟩ (.int .u64 (wd x 0))).setCell ⟨g, 1, none⟩ (.int .u64 (wd x 1))).setCell ⟨g, 2, none⟩ (.int .u64 (wd x 2))).setCell ⟨g, 3, none⟩ (.int .u64 (wd x 3)) = v4 at *
          obtain ⟨u0, u1, u2, u3⟩ := row_c4 hF.ur
          obtain ⟨v0, v1, v2, v3⟩ := row_c4 hF.vr
          obtain ⟨x0, x1, x2, x3⟩ := row_c4 hF.xr
          obtain ⟨y0, y1, y2, y3⟩ := row_c4 hF.yr
          obtain ⟨m0, m1, m2, m3⟩ := row_c4 hF.mr
          obtain ⟨fu0, fu1, fu2, fu3⟩ := row_f4 hF.ur
          obtain ⟨fv0, fv1, fv2, fv3⟩ := row_f4 hF.vr
          obtain ⟨fx0, fx1, fx2, fx3⟩ := row_f4 hF.xr
          obtain ⟨fy0, fy1, fy2, fy3⟩ := row_f4 hF.yr
          obtain ⟨t0, t1, t2, t3⟩ := row_c4 hT
          obtain ⟨ft0, ft1, ft2, ft3⟩ := row_f4 hT
          go_upto_region 23 with (fail)
          clear u0 u1 u2 u3 v0 v1 v2 v3 x0 x1 x2 x3 y0 y1 y2 y3 m0 m1 m2 m3 fu0 fu1 fu2 fu3 fv0 fv1 fv2 fv3 fx0 fx1 fx2 fx3 fy0 fy1 fy2 fy3 t0 t1 t2 t3 ft0 ft1 ft2 ft3
          replace hF := hF.putX y
          replace hT := row_far4 hT (b' := w.heap.size + 1 + 1 + 1 + 1 + 1) (by omega) (.int .u64 (wd y 0)) (.int .u64 (wd y 1)) (.int .u64 (wd y 2)) (.int .u64 (wd y 3))
          generalize (((v4.setCell ⟨w.heap.size + 1 + 1 + 1 + 1 + 1, 0, none⟩ (.int .u64 (wd y 0))).setCell ⟨w.heap.size + 1 + 1 + 1 + 1 + 1, 1, none⟩ (.int .u64 (wd y 1))).setCell ⟨w.heap.size + 1 + 1 + 1 + 1 + 1, 2, none⟩ (.int .u64 (wd y 2))).setCell ⟨w.heap.size + 1 + 1 + 1 + 1 + 1, 3, none⟩ (.int .u64 (wd y 3)) = v5 at *
          obtain ⟨u0, u1, u2, u3⟩ := row_c4 hF.ur
          obtain ⟨v0, v1, v2, v3⟩ := row_c4 hF.vr
          obtain ⟨x0, x1, x2, x3⟩ := row_c4 hF.xr
          obtain ⟨y0, y1, y2, y3⟩ := row_c4 hF.yr
          obtain ⟨m0, m1, m2, m3⟩ := row_c4 hF.mr
          obtain ⟨fu0, fu1, fu2, fu3⟩ := row_f4 hF.ur
          obtain ⟨fv0, fv1, fv2, fv3⟩ := row_f4 hF.vr
          obtain ⟨fx0, fx1, fx2, fx3⟩ := row_f4 hF.xr
          obtain ⟨fy0, fy1, fy2, fy3⟩ := row_f4 hF.yr
          obtain ⟨t0, t1, t2, t3⟩ := row_c4 hT
          obtain ⟨ft0, ft1, ft2, ft3⟩ := row_f4 hT
          go_upto_region 24 with (fail)
          clear u0 u1 u2 u3 v0 v1 v2 v3 x0 x1 x2 x3 y0 y1 y2 y3 m0 m1 m2 m3 fu0 fu1 fu2 fu3 fv0 fv1 fv2 fv3 fx0 fx1 fx2 fx3 fy0 fy1 fy2 fy3 t0 t1 t2 t3 ft0 ft1 ft2 ft3
          replace hF := hF.putY x
          replace hT := row_far4 hT (b' := w.heap.size + 1 + 1 + 1 + 1 + 1 + 1) (by omega) (.int .u64 (wd x 0)) (.int .u64 (wd x 1)) (.int .u64 (wd x 2)) (.int .u64 (wd x 3))
          generalize (((v5.setCell ⟨w.heap.size + 1 + 1 + 1 + 1 + 1 + 1, 0, none⟩ (.int .u64 (wd x 0))).setCell ⟨w.heap.size + 1 + 1 + 1 + 1 + 1 + 1, 1, none⟩ (.int .u64 (wd x 1))).setCell ⟨w.heap.size + 1 + 1 + 1 + 1 + 1 + 1, 2, none⟩ (.int .u64 (wd x 2))).setCell ⟨w.heap.size + 1 + 1 + 1 + 1 + 1 + 1, 3, none⟩ (.int .u64 (wd x 3)) = v6 at *
          clear hT hg
          obtain ⟨u0, u1, u2, u3⟩ := row_c4 hF.ur
          obtain ⟨v0, v1, v2, v3⟩ := row_c4 hF.vr
          obtain ⟨x0, x1, x2, x3⟩ := row_c4 hF.xr
          obtain ⟨y0, y1, y2, y3⟩ := row_c4 hF.yr
          obtain ⟨m0, m1, m2, m3⟩ := row_c4 hF.mr
          obtain ⟨fu0, fu1, fu2, fu3⟩ := row_f4 hF.ur
          obtain ⟨fv0, fv1, fv2, fv3⟩ := row_f4 hF.vr
          obtain ⟨fx0, fx1, fx2, fx3⟩ := row_f4 hF.xr
          obtain ⟨fy0, fy1, fy2, fy3⟩ := row_f4 hF.yr
          go_wp2_with fail
          refine (H2.out _).mono ?_
          rintro e w2 ⟨rfl, hb2⟩
          clear u0 u1 u2 u3 v0 v1 v2 v3 x0 x1 x2 x3 y0 y1 y2 y3 m0 m1 m2 m3 fu0 fu1 fu2 fu3 fv0 fv1 fv2 fv3 fx0 fx1 fx2 fx3 fy0 fy1 fy2 fy3
          replace hF := hF.call hb2
          clear hb2
          obtain ⟨u0, u1, u2, u3⟩ := row_c4 hF.ur
          obtain ⟨v0, v1, v2, v3⟩ := row_c4 hF.vr
          obtain ⟨x0, x1, x2, x3⟩ := row_c4 hF.xr
          obtain ⟨y0, y1, y2, y3⟩ := row_c4 hF.yr
          obtain ⟨m0, m1, m2, m3⟩ := row_c4 hF.mr
          obtain ⟨fu0, fu1, fu2, fu3⟩ := row_f4 hF.ur
          obtain ⟨fv0, fv1, fv2, fv3⟩ := row_f4 hF.vr
          obtain ⟨fx0, fx1, fx2, fx3⟩ := row_f4 hF.xr
          obtain ⟨fy0, fy1, fy2, fy3⟩ := row_f4 hF.yr
          go_upto_region 25 with (fail)
          clear u0 u1 u2 u3 v0 v1 v2 v3 x0 x1 x2 x3 y0 y1 y2 y3 m0 m1 m2 m3 fu0 fu1 fu2 fu3 fv0 fv1 fv2 fv3 fx0 fx1 fx2 fx3 fy0 fy1 fy2 fy3
          replace hF := hF.putU D
          generalize (((w2.setCell ⟨w.heap.size + 1 + 1 + 1, 0, none⟩ (.int .u64 (wd D 0))).setCell ⟨w.heap.size + 1 + 1 + 1, 1, none⟩ (.int .u64 (wd D 1))).setCell ⟨w.heap.size + 1 + 1 + 1, 2, none⟩ (.int .u64 (wd D 2))).setCell ⟨w.heap.size + 1 + 1 + 1, 3, none⟩ (.int .u64 (wd D 3)) = v7 at *
          obtain ⟨u0, u1, u2, u3⟩ := row_c4 hF.ur
          obtain ⟨v0, v1, v2, v3⟩ := row_c4 hF.vr
          obtain ⟨x0, x1, x2, x3⟩ := row_c4 hF.xr
          obtain ⟨y0, y1, y2, y3⟩ := row_c4 hF.yr
          obtain ⟨m0, m1, m2, m3⟩ := row_c4 hF.mr
          obtain ⟨fu0, fu1, fu2, fu3⟩ := row_f4 hF.ur
          obtain ⟨fv0, fv1, fv2, fv3⟩ := row_f4 hF.vr
          obtain ⟨fx0, fx1, fx2, fx3⟩ := row_f4 hF.xr
          obtain ⟨fy0, fy1, fy2, fy3⟩ := row_f4 hF.yr
          go_wp2_with fail
          refine (H3.out _).mono ?_
          rintro e w3 ⟨rfl, hb3⟩
          clear u0 u1 u2 u3 v0 v1 v2 v3 x0 x1 x2 x3 y0 y1 y2 y3 m0 m1 m2 m3 fu0 fu1 fu2 fu3 fv0 fv1 fv2 fv3 fx0 fx1 fx2 fx3 fy0 fy1 fy2 fy3
          replace hF := hF.call hb3
          clear hb3
          obtain ⟨u0, u1, u2, u3⟩ := row_c4 hF.ur
          obtain ⟨v0, v1, v2, v3⟩ := row_c4 hF.vr
          obtain ⟨x0, x1, x2, x3⟩ := row_c4 hF.xr
          obtain ⟨y0, y1, y2, y3⟩ := row_c4 hF.yr
          obtain ⟨m0, m1, m2, m3⟩ := row_c4 hF.mr
          obtain ⟨fu0, fu1, fu2, fu3⟩ := row_f4 hF.ur
          obtain ⟨fv0, fv1, fv2, fv3⟩ := row_f4 hF.vr
          obtain ⟨fx0, fx1, fx2, fx3⟩ := row_f4 hF.xr
          obtain ⟨fy0, fy1, fy2, fy3⟩ := row_f4 hF.yr
          go_upto_region 8 with (fail)
          clear u0 u1 u2 u3 v0 v1 v2 v3 x0 x1 x2 x3 y0 y1 y2 y3 m0 m1 m2 m3 fu0 fu1 fu2 fu3 fv0 fv1 fv2 fv3 fx0 fx1 fx2 fx3 fy0 fy1 fy2 fy3
          replace hF := hF.putX K
          generalize (((w3.setCell ⟨w.heap.size + 1 + 1 + 1 + 1 + 1, 0, none⟩ (.int .u64 (wd K 0))).setCell ⟨w.heap.size + 1 + 1 + 1 + 1 + 1, 1, none⟩ (.int .u64 (wd K 1))).setCell ⟨w.heap.size + 1 + 1 + 1 + 1 + 1, 2, none⟩ (.int .u64 (wd K 2))).setCell ⟨w.heap.size + 1 + 1 + 1 + 1 + 1, 3, none⟩ (.int .u64 (wd K 3)) = v8 at *
          go_wp2
          go_roundw
          case rel => exact ⟨r + 1, D, u, K, x, by go_num, HN.out, hF⟩
          case measure => simp [intOf]; omega
        · skip
          have hD : (u + top - v) % top = u - v := by
            have := hI.hu; have := hI.hv
            rw [show u + top - v = (u - v) + top by omega, Nat.add_mod_right, Nat.mod_eq_of_lt (by omega)]
          obtain ⟨D, hDD⟩ : ∃ D, D = u - v := ⟨_, rfl⟩
          rw [← hDD] at hD
          have H2 := veil (fun W => minus_is u v D hD hI.hu hI.hv W)
          obtain ⟨K, hK⟩ : ∃ K, K = (x + M - y) % M := ⟨_, rfl⟩
          have h3 := fun W => gsub_calls x y M hI.hx hI.hy hM W
          rw [← hK] at h3
          have H3 := veil h3
          have H1 := veil (fun W => less_is u v false (by simpa using hlt) hI.hu hI.hv W)
          have HN := veil (inv_more hI HP.out (by omega))
          rw [← hDD, ← hK] at HN
          clear hD hDD hK h3 hlt
          obtain ⟨u0, u1, u2, u3⟩ := row_c4 hF.ur
          obtain ⟨v0, v1, v2, v3⟩ := row_c4 hF.vr
          obtain ⟨x0, x1, x2, x3⟩ := row_c4 hF.xr
          obtain ⟨y0, y1, y2, y3⟩ := row_c4 hF.yr
          obtain ⟨m0, m1, m2, m3⟩ := row_c4 hF.mr
          obtain ⟨fu0, fu1, fu2, fu3⟩ := row_f4 hF.ur
          obtain ⟨fv0, fv1, fv2, fv3⟩ := row_f4 hF.vr
          obtain ⟨fx0, fx1, fx2, fx3⟩ := row_f4 hF.xr
          obtain ⟨fy0, fy1, fy2, fy3⟩ := row_f4 hF.yr
          go_wp2_with fail
          refine (H1.out _).mono ?_
          rintro e w1 ⟨rfl, hb1⟩
          clear u0 u1 u2 u3 v0 v1 v2 v3 x0 x1 x2 x3 y0 y1 y2 y3 m0 m1 m2 m3 fu0 fu1 fu2 fu3 fv0 fv1 fv2 fv3 fx0 fx1 fx2 fx3 fy0 fy1 fy2 fy3
          clear z0 z1 z2 z3
          replace hF := hF.call hb1
          clear hb1 kz hp hp0
          obtain ⟨u0, u1, u2, u3⟩ := row_c4 hF.ur
          obtain ⟨v0, v1, v2, v3⟩ := row_c4 hF.vr
          obtain ⟨x0, x1, x2, x3⟩ := row_c4 hF.xr
          obtain ⟨y0, y1, y2, y3⟩ := row_c4 hF.yr
          obtain ⟨m0, m1, m2, m3⟩ := row_c4 hF.mr
          obtain ⟨fu0, fu1, fu2, fu3⟩ := row_f4 hF.ur
          obtain ⟨fv0, fv1, fv2, fv3⟩ := row_f4 hF.vr
          obtain ⟨fx0, fx1, fx2, fx3⟩ := row_f4 hF.xr
          obtain ⟨fy0, fy1, fy2, fy3⟩ := row_f4 hF.yr
          go_wp2_with fail
          refine (H2.out _).mono ?_
          rintro e w2 ⟨rfl, hb2⟩
          clear u0 u1 u2 u3 v0 v1 v2 v3 x0 x1 x2 x3 y0 y1 y2 y3 m0 m1 m2 m3 fu0 fu1 fu2 fu3 fv0 fv1 fv2 fv3 fx0 fx1 fx2 fx3 fy0 fy1 fy2 fy3
          replace hF := hF.call hb2
          clear hb2
          obtain ⟨u0, u1, u2, u3⟩ := row_c4 hF.ur
          obtain ⟨v0, v1, v2, v3⟩ := row_c4 hF.vr
          obtain ⟨x0, x1, x2, x3⟩ := row_c4 hF.xr
          obtain ⟨y0, y1, y2, y3⟩ := row_c4 hF.yr
          obtain ⟨m0, m1, m2, m3⟩ := row_c4 hF.mr
          obtain ⟨fu0, fu1, fu2, fu3⟩ := row_f4 hF.ur
          obtain ⟨fv0, fv1, fv2, fv3⟩ := row_f4 hF.vr
          obtain ⟨fx0, fx1, fx2, fx3⟩ := row_f4 hF.xr
          obtain ⟨fy0, fy1, fy2, fy3⟩ := row_f4 hF.yr
          go_upto_region 25 with (fail)
          clear u0 u1 u2 u3 v0 v1 v2 v3 x0 x1 x2 x3 y0 y1 y2 y3 m0 m1 m2 m3 fu0 fu1 fu2 fu3 fv0 fv1 fv2 fv3 fx0 fx1 fx2 fx3 fy0 fy1 fy2 fy3
          replace hF := hF.putU D
          generalize (((w2.setCell ⟨w.heap.size + 1 + 1 + 1, 0, none⟩ (.int .u64 (wd D 0))).setCell ⟨w.heap.size + 1 + 1 + 1, 1, none⟩ (.int .u64 (wd D 1))).setCell ⟨w.heap.size + 1 + 1 + 1, 2, none⟩ (.int .u64 (wd D 2))).setCell ⟨w.heap.size + 1 + 1 + 1, 3, none⟩ (.int .u64 (wd D 3)) = v2 at *
          obtain ⟨u0, u1, u2, u3⟩ := row_c4 hF.ur
          obtain ⟨v0, v1, v2, v3⟩ := row_c4 hF.vr
          obtain ⟨x0, x1, x2, x3⟩ := row_c4 hF.xr
          obtain ⟨y0, y1, y2, y3⟩ := row_c4 hF.yr
          obtain ⟨m0, m1, m2, m3⟩ := row_c4 hF.mr
          obtain ⟨fu0, fu1, fu2, fu3⟩ := row_f4 hF.ur
          obtain ⟨fv0, fv1, fv2, fv3⟩ := row_f4 hF.vr
          obtain ⟨fx0, fx1, fx2, fx3⟩ := row_f4 hF.xr
          obtain ⟨fy0, fy1, fy2, fy3⟩ := row_f4 hF.yr
          go_wp2_with fail
          refine (H3.out _).mono ?_
          rintro e w3 ⟨rfl, hb3⟩
          clear u0 u1 u2 u3 v0 v1 v2 v3 x0 x1 x2 x3 y0 y1 y2 y3 m0 m1 m2 m3 fu0 fu1 fu2 fu3 fv0 fv1 fv2 fv3 fx0 fx1 fx2 fx3 fy0 fy1 fy2 fy3
          replace hF := hF.call hb3
          clear hb3
          obtain ⟨u0, u1, u2, u3⟩ := row_c4 hF.ur
          obtain ⟨v0, v1, v2, v3⟩ := row_c4 hF.vr
          obtain ⟨x0, x1, x2, x3⟩ := row_c4 hF.xr
          obtain ⟨y0, y1, y2, y3⟩ := row_c4 hF.yr
          obtain ⟨m0, m1, m2, m3⟩ := row_c4 hF.mr
          obtain ⟨fu0, fu1, fu2, fu3⟩ := row_f4 hF.ur
          obtain ⟨fv0, fv1, fv2, fv3⟩ := row_f4 hF.vr
          obtain ⟨fx0, fx1, fx2, fx3⟩ := row_f4 hF.xr
          obtain ⟨fy0, fy1, fy2, fy3⟩ := row_f4 hF.yr
          go_upto_region 8 with (fail)
          clear u0 u1 u2 u3 v0 v1 v2 v3 x0 x1 x2 x3 y0 y1 y2 y3 m0 m1 m2 m3 fu0 fu1 fu2 fu3 fv0 fv1 fv2 fv3 fx0 fx1 fx2 fx3 fy0 fy1 fy2 fy3
          replace hF := hF.putX K
          generalize (((w3.setCell ⟨w.heap.size + 1 + 1 + 1 + 1 + 1, 0, none⟩ (.int .u64 (wd K 0))).setCell ⟨w.heap.size + 1 + 1 + 1 + 1 + 1, 1, none⟩ (.int .u64 (wd K 1))).setCell ⟨w.heap.size + 1 + 1 + 1 + 1 + 1, 2, none⟩ (.int .u64 (wd K 2))).setCell ⟨w.heap.size + 1 + 1 + 1 + 1 + 1, 3, none⟩ (.int .u64 (wd K 3)) = v3 at *
          go_wp2
          go_roundw
          case rel => exact ⟨r + 1, D, v, K, y, by go_num, HN.out, hF⟩
          case measure => simp [intOf]; omega
end Go.Proofs.Ytppfcdpokgnpfaa
