/-
  Merged: G1 G2 G3 G4a G5a G6 G7a.
-/
import Derived.Deep.CutRange
import Derived.Deep.RegionHeld3
import Derived.Test.YthgenmoiendakaaDoorZ1

/-
  clapperref02's add, plus, less, minus: words and numbers, as the document's answer for layer 2 reckons them.
-/
namespace Go.Proofs.YthgenmoiendakaaDoor
open Go.RowKit

theorem ret_u2' {a b c d : Int} (h : a = b) (h2 : c = d) : Ending.returned (.tuple #[.int .u64 a, .int .u64 c]) = .returned (.tuple #[.int .u64 b, .int .u64 d]) := by rw [h, h2]

/-- The sum of two words and a carry: no way goes over, or one does. -/
theorem gadd_core (x y c : Int) (hx : 0 ≤ x) (hx2 : x ≤ 18446744073709551615) (hy : 0 ≤ y) (hy2 : y ≤ 18446744073709551615) (hc : 0 ≤ c) (hc2 : c ≤ 1) (w : World) :
    Calls Tryd.prog 71 #[.int .u64 x, .int .u64 y, .int .u64 c] w fun e w' => e = .returned (.tuple #[.int .u64 ((x + y + c) % 18446744073709551616), .int .u64 ((x + y + c) / 18446744073709551616)]) ∧ w' = w := by
  obtain ⟨s, hs⟩ : ∃ s, s = (x + y) % 18446744073709551616 := ⟨_, rfl⟩
  obtain ⟨t, ht⟩ : ∃ t, t = (s + c) % 18446744073709551616 := ⟨_, rfl⟩
  have e1 : IntKind.u64.wrap (x + y) = s := by rw [IntKind.wrap_u64, hs]
  have e2 : IntKind.u64.wrap (s + c) = t := by rw [IntKind.wrap_u64, ht]
  have et : t = (x + y + c) % 18446744073709551616 := by omega
  have E := veil et
  by_cases h1 : s < x
  · have h2 : ¬ t < s := by omega
    have eo : (x + y + c) / 18446744073709551616 = 1 := by omega
    have EO := veil eo
    clear et eo hs ht hx hx2 hy hy2 hc hc2
    go_enter Tryd.func71, Tryd.ntmps71
    go_wp2
    go_ret2
    rw [EO.out, ← E.out]
    exact ⟨ret_u2' (by first | rfl | (rw [e1, e2]) | (rw [e2])) rfl, rfl⟩
  · by_cases h2 : t < s
    · have eo : (x + y + c) / 18446744073709551616 = 1 := by omega
      have EO := veil eo
      clear et eo hs ht hx hx2 hy hy2 hc hc2
      go_enter Tryd.func71, Tryd.ntmps71
      go_wp2
      go_ret2
      rw [EO.out, ← E.out]
      exact ⟨ret_u2' (by first | rfl | (rw [e1, e2]) | (rw [e2])) rfl, rfl⟩
    · have eo : (x + y + c) / 18446744073709551616 = 0 := by omega
      have EO := veil eo
      clear et eo hs ht hx hx2 hy hy2 hc hc2
      go_enter Tryd.func71, Tryd.ntmps71
      go_wp2
      go_ret2
      rw [EO.out, ← E.out]
      exact ⟨ret_u2' (by first | rfl | (rw [e1, e2]) | (rw [e2])) rfl, rfl⟩

theorem gadd_at (X Y k : Nat) (w : World) :
    Calls Tryd.prog 71 #[.int .u64 (wd X k), .int .u64 (wd Y k), .int .u64 (cyI X Y k)] w fun e w' => e = .returned (.tuple #[.int .u64 (wd (X + Y) k), .int .u64 (cyI X Y (k + 1))]) ∧ w = w' := by
  have hc := cy_le w64_pos X Y k
  have h := gadd_core (wd X k) (wd Y k) (cyI X Y k) (wd_lo _ _) (wd_le _ _) (wd_lo _ _) (wd_le _ _) (by unfold cyI; omega) (by unfold cyI; omega) w
  have e1 : (wd X k + wd Y k + cyI X Y k) % 18446744073709551616 = wd (X + Y) k := by
    unfold wd cyI; rw [dg_add w64_pos]; unfold w64; simp
  have e2 : (wd X k + wd Y k + cyI X Y k) / 18446744073709551616 = cyI X Y (k + 1) := by
    unfold wd cyI; rw [cy_succ w64_pos]; unfold w64; simp
  rw [e1, e2] at h
  exact h.mono fun _ _ ⟨a, b⟩ => ⟨a, b.symm⟩

theorem row_mix {X Z k : Nat} (_hk : k < 4) : ∀ i, i < 4 → (if i = k then Value.int .u64 (wd Z k) else Value.int .u64 (if i < k then wd Z i else wd X i)) = Value.int .u64 (if i < k + 1 then wd Z i else wd X i) := by
  intro i _
  by_cases h : i = k
  · subst h; simp
  · rw [if_neg h]; by_cases h2 : i < k
    · rw [if_pos h2, if_pos (by omega)]
    · rw [if_neg h2, if_neg (by omega)]
theorem cyI_one {X Y : Nat} (hX : X < top) (hY : Y < top) : (cyI X Y 4 == 1) = decide (top ≤ X + Y) := by
  unfold cyI
  rw [cy_top (n := 4) hX hY]
  show _ = decide (w64 ^ 4 ≤ X + Y)
  by_cases h : w64 ^ 4 ≤ X + Y <;> simp [h]

set_option maxRecDepth 100000 in
set_option maxHeartbeats 1000000 in
theorem plus_any (X Y : Nat) (hX : X < top) (hY : Y < top) (w : World) :
    Calls Tryd.prog 59 #[.agg #[.int .u64 (wd (X) 0), .int .u64 (wd (X) 1), .int .u64 (wd (X) 2), .int .u64 (wd (X) 3)], .agg #[.int .u64 (wd (Y) 0), .int .u64 (wd (Y) 1), .int .u64 (wd (Y) 2), .int .u64 (wd (Y) 3)]] w fun e w' => e = .returned (.tuple #[.agg #[.int .u64 (wd (X + Y) 0), .int .u64 (wd (X + Y) 1), .int .u64 (wd (X + Y) 2), .int .u64 (wd (X + Y) 3)], .bool (decide (top ≤ X + Y))]) ∧ Below w.heap.size w w' := by
  have HG := veil (fun (k : Nat) (W : World) => gadd_at X Y k W)
  go_enter Tryd.func59, Tryd.ntmps59
  go_wp2
  go_loopw [6, 7] (fun c i wr => ∃ k : Nat, k ≤ 4 ∧ i = .int .i64 k ∧ c = .int .u64 (cyI X Y k) ∧ wr.rowIs w.heap.size 24 4 (fun j => .int .u64 (if j < k then wd (X + Y) j else wd X j))
      ∧ wr.rowIs (w.heap.size + 1) 24 4 (fun j => .int .u64 (wd Y j)) ∧ wr.rowIs (w.heap.size + 1 + 1) 24 4 (fun _ => .int .u64 0) ∧ Below w.heap.size w wr)
    (fun _ i _ => 4 - (intOf i).toNat)
  case atStart => exact ⟨0, by omega, rfl, by simp [cyI, cy_zero], (((row_new (n := 4) (by simp) rfl (arr4 fun j => .int .u64 (wd X j))).alloc _).alloc _).congr (fun j _ => by simp), (row_new (n := 4) (by simp) rfl (arr4 fun j => .int .u64 (wd Y j))).alloc _, row_new (n := 4) (by simp) rfl (arr4 fun _ => .int .u64 0), (((Below.refl _ _).alloc (by simp) _).alloc (by simp) _).alloc (by simp; omega) _⟩
  case round =>
    obtain ⟨k, hk, rfl, rfl, hRX, hRY, hRZ, hbel⟩ := hrel
    by_cases hlt : k < 4
    · have c1 := hRX.cell hlt
      have c2 := hRY.cell hlt
      have f1 := hRX.frozen k
      rw [if_neg (by omega)] at c1
      go_wp2
      go_region_with (go_at_call 71; refine (HG.out _ _).mono ?_; rintro e w' ⟨rfl, rfl⟩)
      all_goals
        go_wp2
        go_roundw
        case rel => exact ⟨k + 1, by omega, by go_num, rfl, ((hRX.set k _).congr (row_mix hlt)).drew, (row_far hRY (by omega) _).drew, (row_far hRZ (by omega) _).drew, (below_set hbel (by omega) _).drew⟩
        case measure => simp [intOf]; omega
    · obtain rfl : k = 4 := by omega
      obtain ⟨c0, c1, c2, c3⟩ := row_c4 hRX
      obtain ⟨d0, d1, d2, d3⟩ := row_c4 hRZ
      obtain ⟨f0, f1, f2, f3⟩ := row_f4 hRZ
      simp only [show (0 : Nat) < 4 from by omega, show (1 : Nat) < 4 from by omega, show (2 : Nat) < 4 from by omega, show (3 : Nat) < 4 from by omega, if_true] at c0 c1 c2 c3
      have hz := cyI_one hX hY
      clear hRX hRY
      go_wp2
      refine bodyPost_ret (results_cell_tmp2 rfl _ _ (w.heap.size + 1 + 1) 24 #[.int .u64 (wd (X + Y) 0), .int .u64 (wd (X + Y) 1), .int .u64 (wd (X + Y) 2), .int .u64 (wd (X + Y) 3)] (0, 0) 4 22 rfl (blk4 (put4 hRZ fun j => .int .u64 (wd (X + Y) j))) Tryd.underlying24 (by kernel_rfl)) rfl ⟨?_, below_put4 hbel (by omega) _ _ _ _⟩
      rfl
theorem plus_calls (X Y : Nat) (hX : X < top) (hY : Y < top) (w : World) :
    Calls Tryd.prog 59 #[.agg #[.int .u64 (wd (X) 0), .int .u64 (wd (X) 1), .int .u64 (wd (X) 2), .int .u64 (wd (X) 3)], .agg #[.int .u64 (wd (Y) 0), .int .u64 (wd (Y) 1), .int .u64 (wd (Y) 2), .int .u64 (wd (Y) 3)]] w fun e w' => e = .returned (.tuple #[.agg #[.int .u64 (wd ((X + Y) % top) 0), .int .u64 (wd ((X + Y) % top) 1), .int .u64 (wd ((X + Y) % top) 2), .int .u64 (wd ((X + Y) % top) 3)], .bool (decide (top ≤ X + Y))]) ∧ Below w.heap.size w w' := by
  rw [wd_mod _ 0 (by omega), wd_mod _ 1 (by omega), wd_mod _ 2 (by omega), wd_mod _ 3 (by omega)]
  exact plus_any X Y hX hY w

theorem lt_high {X Y m : Nat} (hX : X < top) (hY : Y < top) (hm : m < 4) (h : ∀ j, m < j → j < 4 → dg w64 X j = dg w64 Y j) (hne : dg w64 X m ≠ dg w64 Y m) : decide (X < Y) = decide (wd X m < wd Y m) := by
  have hc := cmp_high w64 X Y 4 m w64_pos hX hY hm h hne
  unfold cmpN at hc
  unfold wd
  by_cases h1 : dg w64 X m < dg w64 Y m
  · rw [if_pos h1] at hc
    by_cases h2 : X < Y
    · simp [h1, h2]
    · rw [if_neg h2] at hc; split at hc <;> omega
  · rw [if_neg h1] at hc
    by_cases h2 : X < Y
    · rw [if_pos h2] at hc; omega
    · simp [h1, h2]

set_option maxRecDepth 100000 in
set_option maxHeartbeats 1000000 in
theorem less_calls (X Y : Nat) (hX : X < top) (hY : Y < top) (w : World) :
    Calls Tryd.prog 32 #[.agg #[.int .u64 (wd (X) 0), .int .u64 (wd (X) 1), .int .u64 (wd (X) 2), .int .u64 (wd (X) 3)], .agg #[.int .u64 (wd (Y) 0), .int .u64 (wd (Y) 1), .int .u64 (wd (Y) 2), .int .u64 (wd (Y) 3)]] w fun e w' => e = .returned (.bool (decide (X < Y))) ∧ Below w.heap.size w w' := by
  go_enter Tryd.func32, Tryd.ntmps32
  go_wp2
  go_loopw [5] (fun i wr => ∃ k : Nat, k ≤ 4 ∧ i = .int .i64 ((k : Int) - 1) ∧ (∀ j, k ≤ j → j < 4 → dg w64 X j = dg w64 Y j) ∧ wr.rowIs w.heap.size 24 4 (fun j => .int .u64 (wd X j))
      ∧ wr.rowIs (w.heap.size + 1) 24 4 (fun j => .int .u64 (wd Y j)) ∧ Below w.heap.size w wr)
    (fun i _ => (intOf i + 1).toNat)
  case atStart => exact ⟨4, by omega, rfl, by intro j h1 h2; omega, (row_new (n := 4) (by simp) rfl (arr4 fun j => .int .u64 (wd X j))).alloc _, row_new (n := 4) (by simp) rfl (arr4 fun j => .int .u64 (wd Y j)), ((Below.refl _ _).alloc (by simp) _).alloc (by simp) _⟩
  case round =>
    obtain ⟨k, hk, hi, hall, hRX, hRY, hbel⟩ := hrel
    have HALL := veil hall
    clear hall
    cases k with
    | zero =>
      subst hi
      have hXY : X = Y := eq_of_dg_lt w64_pos hX hY fun j hj => HALL.out j (Nat.zero_le _) hj
      have HXY := veil hXY
      clear hXY
      go_wp2
      go_ret
      rw [show decide (X < Y) = false by rw [HXY.out]; simp]
      exact ⟨rfl, hbel⟩
    | succ m =>
      obtain rfl : _ = Value.int .i64 (m : Int) := hi.trans (by congr 1; omega)
      have hm : m < 4 := by omega
      go_wp2
      have c1 := hRX.cell hm
      have c2 := hRY.cell hm
      by_cases h : dg w64 X m = dg w64 Y m
      · have hne : (wd X m != wd Y m) = false := by unfold wd; rw [h]; simp
        go_quiet (fail)
        go_wp2
        go_roundw
        case rel => exact ⟨m, by omega, by go_num, fun j h1 h2 => by
          by_cases e : j = m
          · rw [e]; exact h
          · exact HALL.out j (by omega) h2, row_drewN hRX _, row_drewN hRY _, below_drewN hbel _⟩
        case measure => simp [intOf]
      · have hne : (wd X m != wd Y m) = true := by rw [bne_iff_ne]; unfold wd; omega
        have HC := veil (lt_high hX hY hm (fun j h1 h2 => HALL.out j (by omega) h2) h)
        clear h
        go_quiet (fail)
        go_wp2
        go_quiet (fail)
        go_wp2
        go_ret
        rw [HC.out]
        exact ⟨rfl, below_drewN (below_drewN hbel _) _⟩
end Go.Proofs.YthgenmoiendakaaDoor


/-
  clapperref02's minus, Add, Sub: what the document's answer for layer 2 makes of sums and differences.
-/
namespace Go.Proofs.YthgenmoiendakaaDoor
open Go.RowKit

theorem dg_ones {B : Nat} (hB : 0 < B) (n i : Nat) (hi : i < n) : dg B (B ^ n - 1) i = B - 1 := by
  obtain ⟨d, rfl⟩ : ∃ d, n = i + (d + 1) := ⟨n - i - 1, by omega⟩
  have hp : 0 < B ^ i := Nat.pow_pos hB
  have hd : 0 < B ^ d := Nat.pow_pos hB
  have e : B ^ (i + (d + 1)) - 1 = (B ^ i - 1) + B ^ i * (B ^ (d + 1) - 1) := by
    rw [Nat.pow_add, Nat.mul_sub, Nat.mul_one]
    have : B ^ i ≤ B ^ i * B ^ (d + 1) := Nat.le_mul_of_pos_right _ (Nat.pow_pos hB)
    omega
  have e2 : B ^ (d + 1) - 1 = (B - 1) + B * (B ^ d - 1) := by
    rw [Nat.pow_succ, Nat.mul_comm, Nat.mul_sub, Nat.mul_one]
    have : B ≤ B * B ^ d := Nat.le_mul_of_pos_right _ hd
    omega
  unfold dg
  rw [e, Nat.add_mul_div_left _ _ hp, Nat.div_eq_of_lt (by omega), Nat.zero_add, e2, Nat.add_mul_mod_self_left, Nat.mod_eq_of_lt (by omega)]
theorem dg_comp {B : Nat} (hB : 0 < B) (Y n i : Nat) (hi : i < n) (hY : Y < B ^ n) : dg B (B ^ n - 1 - Y) i = B - 1 - dg B Y i := by
  have h := dg_sub hB (B ^ n - 1) Y n i hi (Nat.le_of_lt hY)
  have e : dg B (B ^ n - 1 + B ^ n - Y) i = dg B (B ^ n - 1 - Y) i := by
    rw [show B ^ n - 1 + B ^ n - Y = (B ^ n - 1 - Y) + B ^ n by omega, ← dg_mod _ n i hi, Nat.add_mod_right, dg_mod _ n i hi]
  have hb : bw B (B ^ n - 1) Y i = 0 := by
    have hp : 0 < B ^ i := Nat.pow_pos hB
    unfold bw
    have e2 : (B ^ n - 1) % B ^ i = B ^ i - 1 := by
      obtain ⟨d, rfl⟩ : ∃ d, n = i + d := ⟨n - i, by omega⟩
      have : B ^ i ≤ B ^ i * B ^ d := Nat.le_mul_of_pos_right _ (Nat.pow_pos hB)
      rw [Nat.pow_add, show B ^ i * B ^ d - 1 = (B ^ i - 1) + B ^ i * (B ^ d - 1) by rw [Nat.mul_sub, Nat.mul_one]; omega, Nat.add_mul_mod_self_left, Nat.mod_eq_of_lt (by omega)]
    have h1 := Nat.mod_lt Y hp
    rw [e2, if_neg (by omega)]
  have hl := dg_lt hB Y i
  rw [e, hb, dg_ones hB n i hi] at h
  rw [h, Nat.mod_eq_sub_mod (by omega), Nat.mod_eq_of_lt (by omega)]
  omega
theorem wd_comp {Y i : Nat} (hY : Y < top) (hi : i < 4) : 18446744073709551615 - wd Y i = wd (top - 1 - Y) i := by
  have h := dg_comp w64_pos Y 4 i hi hY
  have hl := dg_lt w64_pos Y i
  unfold wd top
  rw [h]
  unfold w64 at *
  omega
theorem minus_num {X Y : Nat} (hY : Y < top) : ((X + (top - 1 - Y)) % top + 1) % top = (X + top - Y) % top := by
  rw [Nat.mod_add_mod, show X + (top - 1 - Y) + 1 = X + top - Y by omega]

set_option maxRecDepth 100000 in
set_option maxHeartbeats 1000000 in
theorem minus_calls (X Y : Nat) (hX : X < top) (hY : Y < top) (w : World) :
    Calls Tryd.prog 60 #[.agg #[.int .u64 (wd (X) 0), .int .u64 (wd (X) 1), .int .u64 (wd (X) 2), .int .u64 (wd (X) 3)], .agg #[.int .u64 (wd (Y) 0), .int .u64 (wd (Y) 1), .int .u64 (wd (Y) 2), .int .u64 (wd (Y) 3)]] w fun e w' => e = .returned (.agg #[.int .u64 (wd ((X + top - Y) % top) 0), .int .u64 (wd ((X + top - Y) % top) 1), .int .u64 (wd ((X + top - Y) % top) 2), .int .u64 (wd ((X + top - Y) % top) 3)]) ∧ Below w.heap.size w w' := by
  obtain ⟨D, hD⟩ : ∃ D, D = (X + top - Y) % top := ⟨_, rfl⟩
  rw [← hD]
  have HD := veil hD
  clear hD
  go_enter Tryd.func60, Tryd.ntmps60
  go_wp2
  go_loopw [5] (fun i wr => ∃ k : Nat, k ≤ 4 ∧ i = .int .i64 k ∧ wr.rowIs w.heap.size 24 4 (fun j => .int .u64 (wd X j))
      ∧ wr.rowIs (w.heap.size + 1) 24 4 (fun j => .int .u64 (if j < k then wd (top - 1 - Y) j else wd Y j)) ∧ wr.rowIs (w.heap.size + 1 + 1) 24 4 (fun _ => .int .u64 0) ∧ Below w.heap.size w wr)
    (fun i _ => 4 - (intOf i).toNat)
  case atStart => exact ⟨0, by omega, rfl, ((row_new (n := 4) (by simp) rfl (arr4 fun j => .int .u64 (wd X j))).alloc _).alloc _, ((row_new (n := 4) (by simp) rfl (arr4 fun j => .int .u64 (wd Y j))).alloc _).congr (fun j _ => by simp), row_new (n := 4) (by simp) rfl (arr4 fun _ => .int .u64 0), (((Below.refl _ _).alloc (by simp) _).alloc (by simp) _).alloc (by simp; omega) _⟩
  case round =>
    obtain ⟨k, hk, rfl, hRX, hRY, hRZ, hbel⟩ := hrel
    by_cases hlt : k < 4
    · have c2 := hRY.cell hlt
      have f2 := hRY.frozen k
      rw [if_neg (by omega)] at c2
      have l1 := wd_lo Y k
      have u1 := wd_le Y k
      have HC := veil (wd_comp hY hlt)
      go_wp2
      go_roundw
      case rel =>
        rw [HC.out]
        exact ⟨k + 1, by omega, by go_num, row_far hRX (by omega) _, (hRY.set k _).congr (row_mix hlt), row_far hRZ (by omega) _, below_set hbel (by omega) _⟩
      case measure => simp [intOf]; omega
    · obtain rfl : k = 4 := by omega
      have hRY := hRY.congr (g := fun j => .int .u64 (wd (top - 1 - Y) j)) (fun j hj => by rw [if_pos hj])
      obtain ⟨c0, c1, c2, c3⟩ := row_c4 hRX
      obtain ⟨b0, b1, b2, b3⟩ := row_c4 hRY
      obtain ⟨S, hS⟩ : ∃ S, S = (X + (top - 1 - Y)) % top := ⟨_, rfl⟩
      have hSt : S < top := by rw [hS]; exact Nat.mod_lt _ top_pos
      have h1 := fun W => plus_calls X (top - 1 - Y) hX (by omega) W
      have h2 := fun W => plus_calls S 1 hSt (by decide) W
      rw [← hS] at h1
      rw [hS, minus_num hY, ← hS, ← HD.out] at h2
      have H1 := veil h1
      have o0 : wd 1 0 = 1 := by decide
      have o1 : wd 1 1 = 0 := by decide
      have o2 : wd 1 2 = 0 := by decide
      have o3 : wd 1 3 = 0 := by decide
      rw [o0, o1, o2, o3] at h2
      have H2 := veil h2
      clear h1 h2 hS o0 o1 o2 o3
      go_wp2_with fail
      refine (H1.out _).mono ?_
      rintro e w3 ⟨rfl, hb3⟩
      clear c0 c1 c2 c3 b0 b1 b2 b3
      have hRZ3 := row_below hRZ hb3 hRZ.lt
      have hB3 := hbel.trans (hb3.mono hbel.size)
      have hS4 : (w3.alloc (.cells #[.int .u64 (wd (S) 0), .int .u64 (wd (S) 1), .int .u64 (wd (S) 2), .int .u64 (wd (S) 3)] 24)).rowIs w3.heap.size 24 4 (fun j => .int .u64 (wd S j)) := row_new (n := 4) rfl rfl (arr4 fun j => .int .u64 (wd S j))
      have hRZ4 := hRZ3.alloc (.cells #[.int .u64 (wd (S) 0), .int .u64 (wd (S) 1), .int .u64 (wd (S) 2), .int .u64 (wd (S) 3)] 24)
      have hB4 := hB3.alloc hB3.size (.cells #[.int .u64 (wd (S) 0), .int .u64 (wd (S) 1), .int .u64 (wd (S) 2), .int .u64 (wd (S) 3)] 24)
      have nz := hRZ3.lt
      clear hRX hRY hRZ hbel hb3 hRZ3 hB3
      go_wp2_with fail
      refine (H2.out _).mono ?_
      rintro e w5 ⟨rfl, hb5⟩
      have hS5 := row_below hS4 hb5 hS4.lt
      have hRZ5 := row_below hRZ4 hb5 hRZ4.lt
      have hB5 := hB4.trans (hb5.mono hB4.size)
      clear hS4 hRZ4 hB4 hb5
      obtain ⟨t0, t1, t2, t3⟩ := row_f4 hS5
      obtain ⟨v0, v1, v2, v3⟩ := row_c4 hS5
      go_upto_region 7 with (fail)
      have hTz := put4 hS5 (fun j => .int .u64 (wd D j))
      have hZz := row_far4 hRZ5 (Nat.ne_of_lt nz) (.int .u64 (wd D 0)) (.int .u64 (wd D 1)) (.int .u64 (wd D 2)) (.int .u64 (wd D 3))
      have hBz := below_put4 (b := w3.heap.size) hB5 (by omega) (.int .u64 (wd D 0)) (.int .u64 (wd D 1)) (.int .u64 (wd D 2)) (.int .u64 (wd D 3))
      clear v0 v1 v2 v3 t0 t1 t2 t3 hS5 hRZ5 hB5
      generalize ((((w5.setCell ⟨w3.heap.size, 0, none⟩ (.int .u64 (wd D 0))).setCell ⟨w3.heap.size, 1, none⟩ (.int .u64 (wd D 1))).setCell ⟨w3.heap.size, 2, none⟩ (.int .u64 (wd D 2))).setCell ⟨w3.heap.size, 3, none⟩ (.int .u64 (wd D 3))) = wz at *
      obtain ⟨p0, p1, p2, p3⟩ := row_c4 hTz
      obtain ⟨d0, d1, d2, d3⟩ := row_c4 hZz
      obtain ⟨f0, f1, f2, f3⟩ := row_f4 hZz
      go_wp2
      refine bodyPost_ret (results_cell_row rfl _ _ (w.heap.size + 1 + 1) 24 #[.int .u64 (wd (D) 0), .int .u64 (wd (D) 1), .int .u64 (wd (D) 2), .int .u64 (wd (D) 3)] (0, 0) _ rfl (blk4 (put4 hZz fun j => .int .u64 (wd D j))) Tryd.underlying24 rfl (by kernel_rfl)) rfl ⟨rfl, below_put4 hBz (by omega) _ _ _ _⟩

/-- The sum of two numbers below M, modulo M. -/
theorem gsum_num {X Y M : Nat} (hX : X < M) (hY : Y < M) (hM : M ≤ top) : (X + Y) % M = if top ≤ X + Y ∨ ¬ (X + Y) % top < M then ((X + Y) % top + top - M) % top else (X + Y) % top := by
  generalize top = t at *
  by_cases h : t ≤ X + Y
  · rw [if_pos (Or.inl h), Nat.mod_eq_sub_mod (show t ≤ X + Y from h), Nat.mod_eq_of_lt (show X + Y - t < t by omega), show X + Y - t + t - M = X + Y - M by omega, Nat.mod_eq_of_lt (show X + Y - M < t by omega)]
    rw [Nat.mod_eq_sub_mod (by omega), Nat.mod_eq_of_lt (by omega)]
  · rw [Nat.mod_eq_of_lt (show X + Y < t by omega)]
    by_cases h2 : X + Y < M
    · rw [if_neg (by omega), Nat.mod_eq_of_lt h2]
    · rw [if_pos (Or.inr h2), Nat.mod_eq_sub_mod (show M ≤ X + Y by omega), Nat.mod_eq_of_lt (show X + Y - M < M by omega), show X + Y + t - M = (X + Y - M) + t by omega, Nat.add_mod_right, Nat.mod_eq_of_lt (by omega)]
theorem plus_is (X Y Z : Nat) (u : Bool) (h : (X + Y) % top = Z) (h2 : decide (top ≤ X + Y) = u) (hX : X < top) (hY : Y < top) (w : World) :
    Calls Tryd.prog 59 #[.agg #[.int .u64 (wd (X) 0), .int .u64 (wd (X) 1), .int .u64 (wd (X) 2), .int .u64 (wd (X) 3)], .agg #[.int .u64 (wd (Y) 0), .int .u64 (wd (Y) 1), .int .u64 (wd (Y) 2), .int .u64 (wd (Y) 3)]] w fun e w' => e = .returned (.tuple #[.agg #[.int .u64 (wd (Z) 0), .int .u64 (wd (Z) 1), .int .u64 (wd (Z) 2), .int .u64 (wd (Z) 3)], .bool u]) ∧ Below w.heap.size w w' := by
  subst h; subst h2; exact plus_calls X Y hX hY w
theorem less_is (X Y : Nat) (u : Bool) (h : decide (X < Y) = u) (hX : X < top) (hY : Y < top) (w : World) :
    Calls Tryd.prog 32 #[.agg #[.int .u64 (wd (X) 0), .int .u64 (wd (X) 1), .int .u64 (wd (X) 2), .int .u64 (wd (X) 3)], .agg #[.int .u64 (wd (Y) 0), .int .u64 (wd (Y) 1), .int .u64 (wd (Y) 2), .int .u64 (wd (Y) 3)]] w fun e w' => e = .returned (.bool u) ∧ Below w.heap.size w w' := by
  subst h; exact less_calls X Y hX hY w
theorem minus_is (X Y Z : Nat) (h : (X + top - Y) % top = Z) (hX : X < top) (hY : Y < top) (w : World) :
    Calls Tryd.prog 60 #[.agg #[.int .u64 (wd (X) 0), .int .u64 (wd (X) 1), .int .u64 (wd (X) 2), .int .u64 (wd (X) 3)], .agg #[.int .u64 (wd (Y) 0), .int .u64 (wd (Y) 1), .int .u64 (wd (Y) 2), .int .u64 (wd (Y) 3)]] w fun e w' => e = .returned (.agg #[.int .u64 (wd (Z) 0), .int .u64 (wd (Z) 1), .int .u64 (wd (Z) 2), .int .u64 (wd (Z) 3)]) ∧ Below w.heap.size w w' := by
  subst h; exact minus_calls X Y hX hY w

end Go.Proofs.YthgenmoiendakaaDoor


/-
  clapperref02.Add, Sub: the document's sum and difference modulo a number.
-/
namespace Go.Proofs.YthgenmoiendakaaDoor
open Go.RowKit

theorem ret_num {X Y : Nat} (h : X = Y) : Ending.returned (.agg #[.int .u64 (wd (X) 0), .int .u64 (wd (X) 1), .int .u64 (wd (X) 2), .int .u64 (wd (X) 3)]) = .returned (.agg #[.int .u64 (wd (Y) 0), .int .u64 (wd (Y) 1), .int .u64 (wd (Y) 2), .int .u64 (wd (Y) 3)]) := by rw [h]

set_option maxRecDepth 100000 in
set_option maxHeartbeats 2000000 in
theorem gadd_over (X Y M S D : Nat) (hX : X < top) (hY : Y < top) (hM : M < top) (hS : (X + Y) % top = S) (hu : decide (top ≤ X + Y) = true) (hD : (S + top - M) % top = D) (w : World) :
    Calls Tryd.prog 43 #[.agg #[.int .u64 (wd (X) 0), .int .u64 (wd (X) 1), .int .u64 (wd (X) 2), .int .u64 (wd (X) 3)], .agg #[.int .u64 (wd (Y) 0), .int .u64 (wd (Y) 1), .int .u64 (wd (Y) 2), .int .u64 (wd (Y) 3)], .agg #[.int .u64 (wd (M) 0), .int .u64 (wd (M) 1), .int .u64 (wd (M) 2), .int .u64 (wd (M) 3)]] w fun e w' => e = .returned (.agg #[.int .u64 (wd (D) 0), .int .u64 (wd (D) 1), .int .u64 (wd (D) 2), .int .u64 (wd (D) 3)]) ∧ Below w.heap.size w w' := by
  have hSt : S < top := by rw [← hS]; exact Nat.mod_lt _ top_pos
  have HS := veil hS
  have HU := veil hu
  have HD := veil hD
  clear hS hu hD
  have hX0 : ((((w.alloc (.cells #[.int .u64 (wd (X) 0), .int .u64 (wd (X) 1), .int .u64 (wd (X) 2), .int .u64 (wd (X) 3)] 24)).alloc (.cells #[.int .u64 (wd (Y) 0), .int .u64 (wd (Y) 1), .int .u64 (wd (Y) 2), .int .u64 (wd (Y) 3)] 24)).alloc (.cells #[.int .u64 (wd (M) 0), .int .u64 (wd (M) 1), .int .u64 (wd (M) 2), .int .u64 (wd (M) 3)] 24)).alloc (.cells #[.int .u64 0, .int .u64 0, .int .u64 0, .int .u64 0] 24)).rowIs w.heap.size 24 4 (fun j => .int .u64 (wd X j)) := (((row_new (n := 4) (by simp) rfl (arr4 fun j => .int .u64 (wd X j))).alloc _).alloc _).alloc _
  have hY0 : ((((w.alloc (.cells #[.int .u64 (wd (X) 0), .int .u64 (wd (X) 1), .int .u64 (wd (X) 2), .int .u64 (wd (X) 3)] 24)).alloc (.cells #[.int .u64 (wd (Y) 0), .int .u64 (wd (Y) 1), .int .u64 (wd (Y) 2), .int .u64 (wd (Y) 3)] 24)).alloc (.cells #[.int .u64 (wd (M) 0), .int .u64 (wd (M) 1), .int .u64 (wd (M) 2), .int .u64 (wd (M) 3)] 24)).alloc (.cells #[.int .u64 0, .int .u64 0, .int .u64 0, .int .u64 0] 24)).rowIs (w.heap.size + 1) 24 4 (fun j => .int .u64 (wd Y j)) := ((row_new (n := 4) (by simp) rfl (arr4 fun j => .int .u64 (wd Y j))).alloc _).alloc _
  have hM0 : ((((w.alloc (.cells #[.int .u64 (wd (X) 0), .int .u64 (wd (X) 1), .int .u64 (wd (X) 2), .int .u64 (wd (X) 3)] 24)).alloc (.cells #[.int .u64 (wd (Y) 0), .int .u64 (wd (Y) 1), .int .u64 (wd (Y) 2), .int .u64 (wd (Y) 3)] 24)).alloc (.cells #[.int .u64 (wd (M) 0), .int .u64 (wd (M) 1), .int .u64 (wd (M) 2), .int .u64 (wd (M) 3)] 24)).alloc (.cells #[.int .u64 0, .int .u64 0, .int .u64 0, .int .u64 0] 24)).rowIs (w.heap.size + 1 + 1) 24 4 (fun j => .int .u64 (wd M j)) := (row_new (n := 4) (by simp) rfl (arr4 fun j => .int .u64 (wd M j))).alloc _
  have hZ0 : ((((w.alloc (.cells #[.int .u64 (wd (X) 0), .int .u64 (wd (X) 1), .int .u64 (wd (X) 2), .int .u64 (wd (X) 3)] 24)).alloc (.cells #[.int .u64 (wd (Y) 0), .int .u64 (wd (Y) 1), .int .u64 (wd (Y) 2), .int .u64 (wd (Y) 3)] 24)).alloc (.cells #[.int .u64 (wd (M) 0), .int .u64 (wd (M) 1), .int .u64 (wd (M) 2), .int .u64 (wd (M) 3)] 24)).alloc (.cells #[.int .u64 0, .int .u64 0, .int .u64 0, .int .u64 0] 24)).rowIs (w.heap.size + 1 + 1 + 1) 24 4 (fun _ => .int .u64 0) := row_new (n := 4) (by simp) rfl (arr4 fun _ => .int .u64 0)
  have hB0 : Below w.heap.size w ((((w.alloc (.cells #[.int .u64 (wd (X) 0), .int .u64 (wd (X) 1), .int .u64 (wd (X) 2), .int .u64 (wd (X) 3)] 24)).alloc (.cells #[.int .u64 (wd (Y) 0), .int .u64 (wd (Y) 1), .int .u64 (wd (Y) 2), .int .u64 (wd (Y) 3)] 24)).alloc (.cells #[.int .u64 (wd (M) 0), .int .u64 (wd (M) 1), .int .u64 (wd (M) 2), .int .u64 (wd (M) 3)] 24)).alloc (.cells #[.int .u64 0, .int .u64 0, .int .u64 0, .int .u64 0] 24)) := ((((Below.refl _ _).alloc (by simp) _).alloc (by simp) _).alloc (by simp; omega) _).alloc (by simp; omega) _
  go_enter Tryd.func43, Tryd.ntmps43
  obtain ⟨a0, a1, a2, a3⟩ := row_c4 hX0
  obtain ⟨b0, b1, b2, b3⟩ := row_c4 hY0
  go_wp2_with fail
  refine (plus_is X Y S true HS.out HU.out hX hY _).mono ?_
  rintro e w1 ⟨rfl, hb1⟩
  clear a0 a1 a2 a3 b0 b1 b2 b3
  have hM1 := row_below hM0 hb1 hM0.lt
  have hZ1 := row_below hZ0 hb1 hZ0.lt
  have hB1 := hB0.trans (hb1.mono hB0.size)
  have hS2 : (w1.alloc (.cells #[.int .u64 (wd (S) 0), .int .u64 (wd (S) 1), .int .u64 (wd (S) 2), .int .u64 (wd (S) 3)] 24)).rowIs w1.heap.size 24 4 (fun j => .int .u64 (wd S j)) := row_new (n := 4) rfl rfl (arr4 fun j => .int .u64 (wd S j))
  have hM2 := hM1.alloc (.cells #[.int .u64 (wd (S) 0), .int .u64 (wd (S) 1), .int .u64 (wd (S) 2), .int .u64 (wd (S) 3)] 24)
  have hZ2 := hZ1.alloc (.cells #[.int .u64 (wd (S) 0), .int .u64 (wd (S) 1), .int .u64 (wd (S) 2), .int .u64 (wd (S) 3)] 24)
  have hB2 := hB1.alloc hB1.size (.cells #[.int .u64 (wd (S) 0), .int .u64 (wd (S) 1), .int .u64 (wd (S) 2), .int .u64 (wd (S) 3)] 24)
  have nz := hZ1.lt
  have nm := hM1.lt
  clear hX0 hY0 hM0 hZ0 hB0 hb1 hM1 hZ1 hB1
  obtain ⟨s0, s1, s2, s3⟩ := row_c4 hS2
  obtain ⟨m0, m1, m2, m3⟩ := row_c4 hM2
  go_wp2_with fail
  refine (minus_is S M D HD.out hSt hM _).mono ?_
  rintro e w5 ⟨rfl, hb5⟩
  clear s0 s1 s2 s3 m0 m1 m2 m3
  have hS5 := row_below hS2 hb5 hS2.lt
  have hZ5 := row_below hZ2 hb5 hZ2.lt
  have hB5 := hB2.trans (hb5.mono hB2.size)
  clear hS2 hM2 hZ2 hB2 hb5
  obtain ⟨t0, t1, t2, t3⟩ := row_f4 hS5
  obtain ⟨v0, v1, v2, v3⟩ := row_c4 hS5
  go_upto_region 4 with (fail)
  have hTz := put4 hS5 (fun j => .int .u64 (wd D j))
  have hZz := row_far4 hZ5 (Nat.ne_of_lt nz) (.int .u64 (wd D 0)) (.int .u64 (wd D 1)) (.int .u64 (wd D 2)) (.int .u64 (wd D 3))
  have hBz := below_put4 (b := w1.heap.size) hB5 (by omega) (.int .u64 (wd D 0)) (.int .u64 (wd D 1)) (.int .u64 (wd D 2)) (.int .u64 (wd D 3))
  clear v0 v1 v2 v3 t0 t1 t2 t3 hS5 hZ5 hB5
  generalize ((((w5.setCell ⟨w1.heap.size, 0, none⟩ (.int .u64 (wd D 0))).setCell ⟨w1.heap.size, 1, none⟩ (.int .u64 (wd D 1))).setCell ⟨w1.heap.size, 2, none⟩ (.int .u64 (wd D 2))).setCell ⟨w1.heap.size, 3, none⟩ (.int .u64 (wd D 3))) = wz at *
  obtain ⟨p0, p1, p2, p3⟩ := row_c4 hTz
  obtain ⟨d0, d1, d2, d3⟩ := row_c4 hZz
  obtain ⟨f0, f1, f2, f3⟩ := row_f4 hZz
  go_wp2
  refine bodyPost_ret (results_cell_row rfl _ _ (w.heap.size + 1 + 1 + 1) 24 #[.int .u64 (wd (D) 0), .int .u64 (wd (D) 1), .int .u64 (wd (D) 2), .int .u64 (wd (D) 3)] (0, 0) _ rfl (blk4 (put4 hZz fun j => .int .u64 (wd D j))) Tryd.underlying24 rfl (by kernel_rfl)) rfl ⟨rfl, below_put4 hBz (by omega) _ _ _ _⟩

set_option maxRecDepth 100000 in
set_option maxHeartbeats 2000000 in
theorem gadd_less (X Y M S : Nat) (hX : X < top) (hY : Y < top) (hM : M < top) (hS : (X + Y) % top = S) (hu : decide (top ≤ X + Y) = false) (hl : decide (S < M) = true) (w : World) :
    Calls Tryd.prog 43 #[.agg #[.int .u64 (wd (X) 0), .int .u64 (wd (X) 1), .int .u64 (wd (X) 2), .int .u64 (wd (X) 3)], .agg #[.int .u64 (wd (Y) 0), .int .u64 (wd (Y) 1), .int .u64 (wd (Y) 2), .int .u64 (wd (Y) 3)], .agg #[.int .u64 (wd (M) 0), .int .u64 (wd (M) 1), .int .u64 (wd (M) 2), .int .u64 (wd (M) 3)]] w fun e w' => e = .returned (.agg #[.int .u64 (wd (S) 0), .int .u64 (wd (S) 1), .int .u64 (wd (S) 2), .int .u64 (wd (S) 3)]) ∧ Below w.heap.size w w' := by
  have hSt : S < top := by rw [← hS]; exact Nat.mod_lt _ top_pos
  have HS := veil hS
  have HU := veil hu
  have HL := veil hl
  clear hS hu hl
  have hX0 : ((((w.alloc (.cells #[.int .u64 (wd (X) 0), .int .u64 (wd (X) 1), .int .u64 (wd (X) 2), .int .u64 (wd (X) 3)] 24)).alloc (.cells #[.int .u64 (wd (Y) 0), .int .u64 (wd (Y) 1), .int .u64 (wd (Y) 2), .int .u64 (wd (Y) 3)] 24)).alloc (.cells #[.int .u64 (wd (M) 0), .int .u64 (wd (M) 1), .int .u64 (wd (M) 2), .int .u64 (wd (M) 3)] 24)).alloc (.cells #[.int .u64 0, .int .u64 0, .int .u64 0, .int .u64 0] 24)).rowIs w.heap.size 24 4 (fun j => .int .u64 (wd X j)) := (((row_new (n := 4) (by simp) rfl (arr4 fun j => .int .u64 (wd X j))).alloc _).alloc _).alloc _
  have hY0 : ((((w.alloc (.cells #[.int .u64 (wd (X) 0), .int .u64 (wd (X) 1), .int .u64 (wd (X) 2), .int .u64 (wd (X) 3)] 24)).alloc (.cells #[.int .u64 (wd (Y) 0), .int .u64 (wd (Y) 1), .int .u64 (wd (Y) 2), .int .u64 (wd (Y) 3)] 24)).alloc (.cells #[.int .u64 (wd (M) 0), .int .u64 (wd (M) 1), .int .u64 (wd (M) 2), .int .u64 (wd (M) 3)] 24)).alloc (.cells #[.int .u64 0, .int .u64 0, .int .u64 0, .int .u64 0] 24)).rowIs (w.heap.size + 1) 24 4 (fun j => .int .u64 (wd Y j)) := ((row_new (n := 4) (by simp) rfl (arr4 fun j => .int .u64 (wd Y j))).alloc _).alloc _
  have hM0 : ((((w.alloc (.cells #[.int .u64 (wd (X) 0), .int .u64 (wd (X) 1), .int .u64 (wd (X) 2), .int .u64 (wd (X) 3)] 24)).alloc (.cells #[.int .u64 (wd (Y) 0), .int .u64 (wd (Y) 1), .int .u64 (wd (Y) 2), .int .u64 (wd (Y) 3)] 24)).alloc (.cells #[.int .u64 (wd (M) 0), .int .u64 (wd (M) 1), .int .u64 (wd (M) 2), .int .u64 (wd (M) 3)] 24)).alloc (.cells #[.int .u64 0, .int .u64 0, .int .u64 0, .int .u64 0] 24)).rowIs (w.heap.size + 1 + 1) 24 4 (fun j => .int .u64 (wd M j)) := (row_new (n := 4) (by simp) rfl (arr4 fun j => .int .u64 (wd M j))).alloc _
  have hZ0 : ((((w.alloc (.cells #[.int .u64 (wd (X) 0), .int .u64 (wd (X) 1), .int .u64 (wd (X) 2), .int .u64 (wd (X) 3)] 24)).alloc (.cells #[.int .u64 (wd (Y) 0), .int .u64 (wd (Y) 1), .int .u64 (wd (Y) 2), .int .u64 (wd (Y) 3)] 24)).alloc (.cells #[.int .u64 (wd (M) 0), .int .u64 (wd (M) 1), .int .u64 (wd (M) 2), .int .u64 (wd (M) 3)] 24)).alloc (.cells #[.int .u64 0, .int .u64 0, .int .u64 0, .int .u64 0] 24)).rowIs (w.heap.size + 1 + 1 + 1) 24 4 (fun _ => .int .u64 0) := row_new (n := 4) (by simp) rfl (arr4 fun _ => .int .u64 0)
  have hB0 : Below w.heap.size w ((((w.alloc (.cells #[.int .u64 (wd (X) 0), .int .u64 (wd (X) 1), .int .u64 (wd (X) 2), .int .u64 (wd (X) 3)] 24)).alloc (.cells #[.int .u64 (wd (Y) 0), .int .u64 (wd (Y) 1), .int .u64 (wd (Y) 2), .int .u64 (wd (Y) 3)] 24)).alloc (.cells #[.int .u64 (wd (M) 0), .int .u64 (wd (M) 1), .int .u64 (wd (M) 2), .int .u64 (wd (M) 3)] 24)).alloc (.cells #[.int .u64 0, .int .u64 0, .int .u64 0, .int .u64 0] 24)) := ((((Below.refl _ _).alloc (by simp) _).alloc (by simp) _).alloc (by simp; omega) _).alloc (by simp; omega) _
  go_enter Tryd.func43, Tryd.ntmps43
  obtain ⟨a0, a1, a2, a3⟩ := row_c4 hX0
  obtain ⟨b0, b1, b2, b3⟩ := row_c4 hY0
  go_wp2_with fail
  refine (plus_is X Y S false HS.out HU.out hX hY _).mono ?_
  rintro e w1 ⟨rfl, hb1⟩
  clear a0 a1 a2 a3 b0 b1 b2 b3
  have hM1 := row_below hM0 hb1 hM0.lt
  have hZ1 := row_below hZ0 hb1 hZ0.lt
  have hB1 := hB0.trans (hb1.mono hB0.size)
  have hS2 : (w1.alloc (.cells #[.int .u64 (wd (S) 0), .int .u64 (wd (S) 1), .int .u64 (wd (S) 2), .int .u64 (wd (S) 3)] 24)).rowIs w1.heap.size 24 4 (fun j => .int .u64 (wd S j)) := row_new (n := 4) rfl rfl (arr4 fun j => .int .u64 (wd S j))
  have hM2 := hM1.alloc (.cells #[.int .u64 (wd (S) 0), .int .u64 (wd (S) 1), .int .u64 (wd (S) 2), .int .u64 (wd (S) 3)] 24)
  have hZ2 := hZ1.alloc (.cells #[.int .u64 (wd (S) 0), .int .u64 (wd (S) 1), .int .u64 (wd (S) 2), .int .u64 (wd (S) 3)] 24)
  have hB2 := hB1.alloc hB1.size (.cells #[.int .u64 (wd (S) 0), .int .u64 (wd (S) 1), .int .u64 (wd (S) 2), .int .u64 (wd (S) 3)] 24)
  have nz := hZ1.lt
  have nm := hM1.lt
  clear hX0 hY0 hM0 hZ0 hB0 hb1 hM1 hZ1 hB1
  obtain ⟨s0, s1, s2, s3⟩ := row_c4 hS2
  obtain ⟨m0, m1, m2, m3⟩ := row_c4 hM2
  go_wp2_with fail
  refine (less_is S M true HL.out hSt hM _).mono ?_
  rintro e w3 ⟨rfl, hb3⟩
  clear s0 s1 s2 s3 m0 m1 m2 m3
  have hS3 := row_below hS2 hb3 hS2.lt
  have hM3 := row_below hM2 hb3 hM2.lt
  have hZ3 := row_below hZ2 hb3 hZ2.lt
  have hB3 := hB2.trans (hb3.mono hB2.size)
  clear hS2 hM2 hZ2 hB2 hb3
  obtain ⟨s0, s1, s2, s3⟩ := row_c4 hS3
  obtain ⟨m0, m1, m2, m3⟩ := row_c4 hM3
  obtain ⟨d0, d1, d2, d3⟩ := row_c4 hZ3
  obtain ⟨f0, f1, f2, f3⟩ := row_f4 hZ3
  go_wp2
  refine bodyPost_ret (results_cell_row rfl _ _ (w.heap.size + 1 + 1 + 1) 24 #[.int .u64 (wd (S) 0), .int .u64 (wd (S) 1), .int .u64 (wd (S) 2), .int .u64 (wd (S) 3)] (0, 0) _ rfl (blk4 (put4 hZ3 fun j => .int .u64 (wd S j))) Tryd.underlying24 rfl (by kernel_rfl)) rfl ⟨rfl, below_put4 hB3 (by omega) _ _ _ _⟩

set_option maxRecDepth 100000 in
set_option maxHeartbeats 2000000 in
theorem gadd_more (X Y M S D : Nat) (hX : X < top) (hY : Y < top) (hM : M < top) (hS : (X + Y) % top = S) (hu : decide (top ≤ X + Y) = false) (hl : decide (S < M) = false) (hD : (S + top - M) % top = D) (w : World) :
    Calls Tryd.prog 43 #[.agg #[.int .u64 (wd (X) 0), .int .u64 (wd (X) 1), .int .u64 (wd (X) 2), .int .u64 (wd (X) 3)], .agg #[.int .u64 (wd (Y) 0), .int .u64 (wd (Y) 1), .int .u64 (wd (Y) 2), .int .u64 (wd (Y) 3)], .agg #[.int .u64 (wd (M) 0), .int .u64 (wd (M) 1), .int .u64 (wd (M) 2), .int .u64 (wd (M) 3)]] w fun e w' => e = .returned (.agg #[.int .u64 (wd (D) 0), .int .u64 (wd (D) 1), .int .u64 (wd (D) 2), .int .u64 (wd (D) 3)]) ∧ Below w.heap.size w w' := by
  have hSt : S < top := by rw [← hS]; exact Nat.mod_lt _ top_pos
  have HS := veil hS
  have HU := veil hu
  have HL := veil hl
  have HD := veil hD
  clear hS hu hl hD
  have hX0 : ((((w.alloc (.cells #[.int .u64 (wd (X) 0), .int .u64 (wd (X) 1), .int .u64 (wd (X) 2), .int .u64 (wd (X) 3)] 24)).alloc (.cells #[.int .u64 (wd (Y) 0), .int .u64 (wd (Y) 1), .int .u64 (wd (Y) 2), .int .u64 (wd (Y) 3)] 24)).alloc (.cells #[.int .u64 (wd (M) 0), .int .u64 (wd (M) 1), .int .u64 (wd (M) 2), .int .u64 (wd (M) 3)] 24)).alloc (.cells #[.int .u64 0, .int .u64 0, .int .u64 0, .int .u64 0] 24)).rowIs w.heap.size 24 4 (fun j => .int .u64 (wd X j)) := (((row_new (n := 4) (by simp) rfl (arr4 fun j => .int .u64 (wd X j))).alloc _).alloc _).alloc _
  have hY0 : ((((w.alloc (.cells #[.int .u64 (wd (X) 0), .int .u64 (wd (X) 1), .int .u64 (wd (X) 2), .int .u64 (wd (X) 3)] 24)).alloc (.cells #[.int .u64 (wd (Y) 0), .int .u64 (wd (Y) 1), .int .u64 (wd (Y) 2), .int .u64 (wd (Y) 3)] 24)).alloc (.cells #[.int .u64 (wd (M) 0), .int .u64 (wd (M) 1), .int .u64 (wd (M) 2), .int .u64 (wd (M) 3)] 24)).alloc (.cells #[.int .u64 0, .int .u64 0, .int .u64 0, .int .u64 0] 24)).rowIs (w.heap.size + 1) 24 4 (fun j => .int .u64 (wd Y j)) := ((row_new (n := 4) (by simp) rfl (arr4 fun j => .int .u64 (wd Y j))).alloc _).alloc _
  have hM0 : ((((w.alloc (.cells #[.int .u64 (wd (X) 0), .int .u64 (wd (X) 1), .int .u64 (wd (X) 2), .int .u64 (wd (X) 3)] 24)).alloc (.cells #[.int .u64 (wd (Y) 0), .int .u64 (wd (Y) 1), .int .u64 (wd (Y) 2), .int .u64 (wd (Y) 3)] 24)).alloc (.cells #[.int .u64 (wd (M) 0), .int .u64 (wd (M) 1), .int .u64 (wd (M) 2), .int .u64 (wd (M) 3)] 24)).alloc (.cells #[.int .u64 0, .int .u64 0, .int .u64 0, .int .u64 0] 24)).rowIs (w.heap.size + 1 + 1) 24 4 (fun j => .int .u64 (wd M j)) := (row_new (n := 4) (by simp) rfl (arr4 fun j => .int .u64 (wd M j))).alloc _
  have hZ0 : ((((w.alloc (.cells #[.int .u64 (wd (X) 0), .int .u64 (wd (X) 1), .int .u64 (wd (X) 2), .int .u64 (wd (X) 3)] 24)).alloc (.cells #[.int .u64 (wd (Y) 0), .int .u64 (wd (Y) 1), .int .u64 (wd (Y) 2), .int .u64 (wd (Y) 3)] 24)).alloc (.cells #[.int .u64 (wd (M) 0), .int .u64 (wd (M) 1), .int .u64 (wd (M) 2), .int .u64 (wd (M) 3)] 24)).alloc (.cells #[.int .u64 0, .int .u64 0, .int .u64 0, .int .u64 0] 24)).rowIs (w.heap.size + 1 + 1 + 1) 24 4 (fun _ => .int .u64 0) := row_new (n := 4) (by simp) rfl (arr4 fun _ => .int .u64 0)
  have hB0 : Below w.heap.size w ((((w.alloc (.cells #[.int .u64 (wd (X) 0), .int .u64 (wd (X) 1), .int .u64 (wd (X) 2), .int .u64 (wd (X) 3)] 24)).alloc (.cells #[.int .u64 (wd (Y) 0), .int .u64 (wd (Y) 1), .int .u64 (wd (Y) 2), .int .u64 (wd (Y) 3)] 24)).alloc (.cells #[.int .u64 (wd (M) 0), .int .u64 (wd (M) 1), .int .u64 (wd (M) 2), .int .u64 (wd (M) 3)] 24)).alloc (.cells #[.int .u64 0, .int .u64 0, .int .u64 0, .int .u64 0] 24)) := ((((Below.refl _ _).alloc (by simp) _).alloc (by simp) _).alloc (by simp; omega) _).alloc (by simp; omega) _
  go_enter Tryd.func43, Tryd.ntmps43
  obtain ⟨a0, a1, a2, a3⟩ := row_c4 hX0
  obtain ⟨b0, b1, b2, b3⟩ := row_c4 hY0
  go_wp2_with fail
  refine (plus_is X Y S false HS.out HU.out hX hY _).mono ?_
  rintro e w1 ⟨rfl, hb1⟩
  clear a0 a1 a2 a3 b0 b1 b2 b3
  have hM1 := row_below hM0 hb1 hM0.lt
  have hZ1 := row_below hZ0 hb1 hZ0.lt
  have hB1 := hB0.trans (hb1.mono hB0.size)
  have hS2 : (w1.alloc (.cells #[.int .u64 (wd (S) 0), .int .u64 (wd (S) 1), .int .u64 (wd (S) 2), .int .u64 (wd (S) 3)] 24)).rowIs w1.heap.size 24 4 (fun j => .int .u64 (wd S j)) := row_new (n := 4) rfl rfl (arr4 fun j => .int .u64 (wd S j))
  have hM2 := hM1.alloc (.cells #[.int .u64 (wd (S) 0), .int .u64 (wd (S) 1), .int .u64 (wd (S) 2), .int .u64 (wd (S) 3)] 24)
  have hZ2 := hZ1.alloc (.cells #[.int .u64 (wd (S) 0), .int .u64 (wd (S) 1), .int .u64 (wd (S) 2), .int .u64 (wd (S) 3)] 24)
  have hB2 := hB1.alloc hB1.size (.cells #[.int .u64 (wd (S) 0), .int .u64 (wd (S) 1), .int .u64 (wd (S) 2), .int .u64 (wd (S) 3)] 24)
  have nz := hZ1.lt
  have nm := hM1.lt
  clear hX0 hY0 hM0 hZ0 hB0 hb1 hM1 hZ1 hB1
  obtain ⟨s0, s1, s2, s3⟩ := row_c4 hS2
  obtain ⟨m0, m1, m2, m3⟩ := row_c4 hM2
  go_wp2_with fail
  refine (less_is S M false HL.out hSt hM _).mono ?_
  rintro e w3 ⟨rfl, hb3⟩
  clear s0 s1 s2 s3 m0 m1 m2 m3
  have hS3 := row_below hS2 hb3 hS2.lt
  have hM3 := row_below hM2 hb3 hM2.lt
  have hZ3 := row_below hZ2 hb3 hZ2.lt
  have hB3 := hB2.trans (hb3.mono hB2.size)
  clear hS2 hM2 hZ2 hB2 hb3
  obtain ⟨s0, s1, s2, s3⟩ := row_c4 hS3
  obtain ⟨m0, m1, m2, m3⟩ := row_c4 hM3
  go_wp2_with fail
  refine (minus_is S M D HD.out hSt hM _).mono ?_
  rintro e w5 ⟨rfl, hb5⟩
  clear s0 s1 s2 s3 m0 m1 m2 m3
  have hS5 := row_below hS3 hb5 hS3.lt
  have hZ5 := row_below hZ3 hb5 hZ3.lt
  have hB5 := hB3.trans (hb5.mono hB3.size)
  clear hS3 hM3 hZ3 hB3 hb5
  obtain ⟨t0, t1, t2, t3⟩ := row_f4 hS5
  obtain ⟨v0, v1, v2, v3⟩ := row_c4 hS5
  go_upto_region 4 with (fail)
  have hTz := put4 hS5 (fun j => .int .u64 (wd D j))
  have hZz := row_far4 hZ5 (Nat.ne_of_lt nz) (.int .u64 (wd D 0)) (.int .u64 (wd D 1)) (.int .u64 (wd D 2)) (.int .u64 (wd D 3))
  have hBz := below_put4 (b := w1.heap.size) hB5 (by omega) (.int .u64 (wd D 0)) (.int .u64 (wd D 1)) (.int .u64 (wd D 2)) (.int .u64 (wd D 3))
  clear v0 v1 v2 v3 t0 t1 t2 t3 hS5 hZ5 hB5
  generalize ((((w5.setCell ⟨w1.heap.size, 0, none⟩ (.int .u64 (wd D 0))).setCell ⟨w1.heap.size, 1, none⟩ (.int .u64 (wd D 1))).setCell ⟨w1.heap.size, 2, none⟩ (.int .u64 (wd D 2))).setCell ⟨w1.heap.size, 3, none⟩ (.int .u64 (wd D 3))) = wz at *
  obtain ⟨p0, p1, p2, p3⟩ := row_c4 hTz
  obtain ⟨d0, d1, d2, d3⟩ := row_c4 hZz
  obtain ⟨f0, f1, f2, f3⟩ := row_f4 hZz
  go_wp2
  refine bodyPost_ret (results_cell_row rfl _ _ (w.heap.size + 1 + 1 + 1) 24 #[.int .u64 (wd (D) 0), .int .u64 (wd (D) 1), .int .u64 (wd (D) 2), .int .u64 (wd (D) 3)] (0, 0) _ rfl (blk4 (put4 hZz fun j => .int .u64 (wd D j))) Tryd.underlying24 rfl (by kernel_rfl)) rfl ⟨rfl, below_put4 hBz (by omega) _ _ _ _⟩

/-- clapperref02.Add of two numbers below M. -/
theorem gadd_calls (X Y M : Nat) (hX : X < M) (hY : Y < M) (hM : M < top) (w : World) :
    Calls Tryd.prog 43 #[.agg #[.int .u64 (wd (X) 0), .int .u64 (wd (X) 1), .int .u64 (wd (X) 2), .int .u64 (wd (X) 3)], .agg #[.int .u64 (wd (Y) 0), .int .u64 (wd (Y) 1), .int .u64 (wd (Y) 2), .int .u64 (wd (Y) 3)], .agg #[.int .u64 (wd (M) 0), .int .u64 (wd (M) 1), .int .u64 (wd (M) 2), .int .u64 (wd (M) 3)]] w fun e w' => e = .returned (.agg #[.int .u64 (wd ((X + Y) % M) 0), .int .u64 (wd ((X + Y) % M) 1), .int .u64 (wd ((X + Y) % M) 2), .int .u64 (wd ((X + Y) % M) 3)]) ∧ Below w.heap.size w w' := by
  have h := gsum_num hX hY (Nat.le_of_lt hM)
  by_cases h1 : top ≤ X + Y
  · rw [h, if_pos (Or.inl h1)]
    exact gadd_over X Y M _ _ (by omega) (by omega) hM rfl (by simpa using h1) rfl w
  · by_cases h2 : (X + Y) % top < M
    · rw [h, if_neg (by omega)]
      exact gadd_less X Y M _ (by omega) (by omega) hM rfl (by simpa using h1) (by simpa using h2) w
    · rw [h, if_pos (Or.inr h2)]
      exact gadd_more X Y M _ _ (by omega) (by omega) hM rfl (by simpa using h1) (by simpa using h2) rfl w
end Go.Proofs.YthgenmoiendakaaDoor


/-
  What a region keeps that makes a block and calls (a seat without the reference's Sub has this part).
-/
namespace Go.Proofs.YthgenmoiendakaaDoor
open Go.RowKit

theorem keep_alloc {wz W : World} (o : Obj) (h : (∀ b o, b < wz.heap.size → W.cell? ⟨b, o, none⟩ = wz.cell? ⟨b, o, none⟩) ∧ Below wz.heap.size wz W) :
    (∀ b i, b < wz.heap.size → (W.alloc o).cell? ⟨b, i, none⟩ = wz.cell? ⟨b, i, none⟩) ∧ Below wz.heap.size wz (W.alloc o) :=
  keep_old (w' := W.alloc o) ((Below.refl _ _).alloc (Nat.le_refl _) o) h
theorem keep_fresh {wz : World} (o : Obj) : (∀ b i, b < wz.heap.size → (wz.alloc o).drew.cell? ⟨b, i, none⟩ = wz.cell? ⟨b, i, none⟩) ∧ Below wz.heap.size wz (wz.alloc o).drew :=
  keep_alloc o (keep_drew wz)
theorem keep_swap {wz W : World} {o o' : Obj} (h : (∀ b i, b < wz.heap.size → (W.alloc o).cell? ⟨b, i, none⟩ = wz.cell? ⟨b, i, none⟩) ∧ Below wz.heap.size wz (W.alloc o)) (hs : wz.heap.size ≤ W.heap.size) :
    (∀ b i, b < wz.heap.size → (W.alloc o').cell? ⟨b, i, none⟩ = wz.cell? ⟨b, i, none⟩) ∧ Below wz.heap.size wz (W.alloc o') := by
  have e : ∀ b, b < wz.heap.size → (W.alloc o').heap[b]? = (W.alloc o).heap[b]? := fun b hb => (Below.heap_alloc _ _ _ (by omega)).trans (Below.heap_alloc _ _ _ (by omega)).symm
  refine ⟨fun b i hb => Eq.trans ?_ (h.1 b i hb), ?_⟩
  · unfold World.cell?; simp only [e b hb]
  · exact ⟨h.2.os, h.2.tape, h.2.output, by have := h.2.size; simp at this ⊢; omega, fun b hb => (e b hb).trans (h.2.block b hb)⟩
theorem below_look {W w' : World} (hb : Below W.heap.size W w') : (∀ b o, b < W.heap.size → w'.cell? ⟨b, o, none⟩ = W.cell? ⟨b, o, none⟩) ∧ (∀ b o, b < W.heap.size → w'.frozen? ⟨b, o, none⟩ = W.frozen? ⟨b, o, none⟩) ∧ (∀ b, b < W.heap.size → b < w'.heap.size) :=
  ⟨fun b o h => hb.cell (p := ⟨b, o, none⟩) h, fun b o h => hb.frozen (p := ⟨b, o, none⟩) h, fun _ h => Nat.lt_of_lt_of_le h hb.size⟩
theorem keep_put4 {wz W : World} {g : Nat} {v0 v1 v2 v3 : Value} (hg : wz.heap.size ≤ g) (h : (∀ b o, b < wz.heap.size → W.cell? ⟨b, o, none⟩ = wz.cell? ⟨b, o, none⟩) ∧ Below wz.heap.size wz W) :
    (∀ b o, b < wz.heap.size → ((((W.setCell ⟨g, 0, none⟩ v0).setCell ⟨g, 1, none⟩ v1).setCell ⟨g, 2, none⟩ v2).setCell ⟨g, 3, none⟩ v3).cell? ⟨b, o, none⟩ = wz.cell? ⟨b, o, none⟩) ∧ Below wz.heap.size wz ((((W.setCell ⟨g, 0, none⟩ v0).setCell ⟨g, 1, none⟩ v1).setCell ⟨g, 2, none⟩ v2).setCell ⟨g, 3, none⟩ v3) :=
  ⟨fun b o hlt => (Below.cell (below_put4 (Below.refl wz.heap.size W) hg v0 v1 v2 v3) (p := ⟨b, o, none⟩) hlt).trans (h.1 b o hlt), below_put4 h.2 hg v0 v1 v2 v3⟩

end Go.Proofs.YthgenmoiendakaaDoor


/-
  Products bit by bit: the numbers.
-/
namespace Go.Proofs.YthgenmoiendakaaDoor
open Go.RowKit

/-- Word i of Y, behind k shifts to the left. -/
def mw (Y i k : Nat) : Nat := dg w64 Y i * 2 ^ k % 2 ^ 64
theorem mw_zero (Y i : Nat) : mw Y i 0 = dg w64 Y i := by
  have := dg_lt w64_pos Y i
  unfold mw; rw [Nat.pow_zero, Nat.mul_one]; exact Nat.mod_eq_of_lt this
theorem mw_lt (Y i k : Nat) : mw Y i k < 18446744073709551616 := by
  unfold mw; exact Nat.mod_lt _ (by decide)
theorem mw_succ (Y i k : Nat) : (mw Y i k + mw Y i k) % 18446744073709551616 = mw Y i (k + 1) := by
  unfold mw
  show _ % 2 ^ 64 = _
  rw [← Nat.add_mod, Nat.pow_succ 2 k, ← Nat.mul_assoc, Nat.mul_two]
theorem mw_top (Y i k : Nat) (hk : k < 64) : 9223372036854775808 ≤ mw Y i k ↔ Y / 2 ^ (64 * i + (63 - k)) % 2 = 1 := by
  unfold mw dg
  obtain ⟨j, hj⟩ : ∃ j, j = 63 - k := ⟨_, rfl⟩
  have e64 : (2 : Nat) ^ 64 = 2 ^ (j + 1) * 2 ^ k := by rw [← Nat.pow_add]; congr 1; omega
  have e63 : (9223372036854775808 : Nat) = 2 ^ j * 2 ^ k := by rw [← Nat.pow_add, show j + k = 63 by omega]
  have hp : 0 < 2 ^ k := Nat.pow_pos (by omega)
  have hq : 0 < 2 ^ j := Nat.pow_pos (by omega)
  have ew : w64 ^ i = 2 ^ (64 * i) := by unfold w64; rw [show (18446744073709551616 : Nat) = 2 ^ 64 from rfl, ← Nat.pow_mul]
  rw [ew, ← hj, e64, e63, Nat.mul_mod_mul_right]
  rw [Nat.pow_add 2 (64 * i), ← Nat.div_div_eq_div_mul]
  generalize Y / 2 ^ (64 * i) = a
  have h1 : a % w64 % 2 ^ (j + 1) = a % 2 ^ (j + 1) := by
    apply Nat.mod_mod_of_dvd
    unfold w64; rw [show (18446744073709551616 : Nat) = 2 ^ (j + 1) * 2 ^ k from e64]
    exact Nat.dvd_mul_right _ _
  rw [h1, Nat.pow_succ, Nat.mod_mul]
  have h2 := Nat.mod_lt a hq
  generalize a / 2 ^ j = c
  generalize a % 2 ^ j = d at *
  generalize 2 ^ j = p at *
  generalize 2 ^ k = q at *
  constructor
  · intro h
    have h3 := Nat.le_of_mul_le_mul_right h hp
    have : c % 2 = 0 ∨ c % 2 = 1 := by omega
    rcases this with e | e
    · rw [e] at h3; omega
    · exact e
  · intro h
    rw [h]
    exact Nat.mul_le_mul_right _ (by omega)
/-- What the bits above place n are, one more. -/
theorem bits_step (Y n : Nat) : Y / 2 ^ n = 2 * (Y / 2 ^ (n + 1)) + Y / 2 ^ n % 2 := by
  rw [Nat.pow_succ, ← Nat.div_div_eq_div_mul]; omega

def acc (X Y M n : Nat) : Nat := X * (Y / 2 ^ n) % M
theorem acc_lt {X Y M n : Nat} (h : 0 < M) : acc X Y M n < M := Nat.mod_lt _ h
theorem acc_twice (X Y M n : Nat) (h : Y / 2 ^ n % 2 = 0) : (acc X Y M (n + 1) + acc X Y M (n + 1)) % M = acc X Y M n := by
  unfold acc
  rw [bits_step Y n, h, ← Nat.add_mod]
  congr 1
  generalize Y / 2 ^ (n + 1) = q
  rw [Nat.add_zero, Nat.mul_left_comm]; omega
theorem acc_more (X Y M n : Nat) (h : Y / 2 ^ n % 2 = 1) : ((acc X Y M (n + 1) + acc X Y M (n + 1)) % M + X) % M = acc X Y M n := by
  unfold acc
  rw [bits_step Y n, h, ← Nat.add_mod, Nat.mod_add_mod]
  congr 1
  rw [Nat.mul_add, Nat.mul_left_comm, Nat.mul_one]; omega
theorem acc_start (X Y M n : Nat) (h : Y < 2 ^ n) : acc X Y M n = 0 := by
  unfold acc; rw [Nat.div_eq_of_lt h]; simp
theorem acc_end (X Y M : Nat) : acc X Y M 0 = X * Y % M := by
  unfold acc; simp

theorem num_wide (X : Nat) (h : X < top) : wd X 4 = 0 ∧ wd X 5 = 0 ∧ wd X 6 = 0 ∧ wd X 7 = 0 := by
  have e : ∀ i, 4 ≤ i → wd X i = 0 := by
    intro i hi
    unfold wd dg
    rw [Nat.div_eq_of_lt (Nat.lt_of_lt_of_le h (Nat.pow_le_pow_right w64_pos hi))]; rfl
  exact ⟨e 4 (by omega), e 5 (by omega), e 6 (by omega), e 7 (by omega)⟩
end Go.Proofs.YthgenmoiendakaaDoor


/-
  clapperref02.In, Cut: a number, and a wide one, modulo another one.
-/
namespace Go.Proofs.YthgenmoiendakaaDoor
open Go.RowKit

set_option maxRecDepth 100000 in
set_option maxHeartbeats 2000000 in
theorem gin_small (X M : Nat) (hX : X < M) (hM : M < top) (w : World) :
    Calls Tryd.prog 17 #[.agg #[.int .u64 (wd (X) 0), .int .u64 (wd (X) 1), .int .u64 (wd (X) 2), .int .u64 (wd (X) 3)], .agg #[.int .u64 (wd (M) 0), .int .u64 (wd (M) 1), .int .u64 (wd (M) 2), .int .u64 (wd (M) 3)]] w fun e w' => e = .returned (.agg #[.int .u64 (wd (X) 0), .int .u64 (wd (X) 1), .int .u64 (wd (X) 2), .int .u64 (wd (X) 3)]) ∧ Below w.heap.size w w' := by
  have HL := veil (show decide (X < M) = true by simpa using hX)
  have hXt : X < top := by omega
  have hX0 : (((w.alloc (.cells #[.int .u64 (wd (X) 0), .int .u64 (wd (X) 1), .int .u64 (wd (X) 2), .int .u64 (wd (X) 3)] 24)).alloc (.cells #[.int .u64 (wd (M) 0), .int .u64 (wd (M) 1), .int .u64 (wd (M) 2), .int .u64 (wd (M) 3)] 24)).alloc (.cells #[.int .u64 0, .int .u64 0, .int .u64 0, .int .u64 0] 24)).rowIs w.heap.size 24 4 (fun j => .int .u64 (wd X j)) := ((row_new (n := 4) (by simp) rfl (arr4 fun j => .int .u64 (wd X j))).alloc _).alloc _
  have hM0 : (((w.alloc (.cells #[.int .u64 (wd (X) 0), .int .u64 (wd (X) 1), .int .u64 (wd (X) 2), .int .u64 (wd (X) 3)] 24)).alloc (.cells #[.int .u64 (wd (M) 0), .int .u64 (wd (M) 1), .int .u64 (wd (M) 2), .int .u64 (wd (M) 3)] 24)).alloc (.cells #[.int .u64 0, .int .u64 0, .int .u64 0, .int .u64 0] 24)).rowIs (w.heap.size + 1) 24 4 (fun j => .int .u64 (wd M j)) := (row_new (n := 4) (by simp) rfl (arr4 fun j => .int .u64 (wd M j))).alloc _
  have hR0 : (((w.alloc (.cells #[.int .u64 (wd (X) 0), .int .u64 (wd (X) 1), .int .u64 (wd (X) 2), .int .u64 (wd (X) 3)] 24)).alloc (.cells #[.int .u64 (wd (M) 0), .int .u64 (wd (M) 1), .int .u64 (wd (M) 2), .int .u64 (wd (M) 3)] 24)).alloc (.cells #[.int .u64 0, .int .u64 0, .int .u64 0, .int .u64 0] 24)).rowIs (w.heap.size + 1 + 1) 24 4 (fun _ => .int .u64 0) := row_new (n := 4) (by simp) rfl (arr4 fun _ => .int .u64 0)
  have hb0 : Below w.heap.size w (((w.alloc (.cells #[.int .u64 (wd (X) 0), .int .u64 (wd (X) 1), .int .u64 (wd (X) 2), .int .u64 (wd (X) 3)] 24)).alloc (.cells #[.int .u64 (wd (M) 0), .int .u64 (wd (M) 1), .int .u64 (wd (M) 2), .int .u64 (wd (M) 3)] 24)).alloc (.cells #[.int .u64 0, .int .u64 0, .int .u64 0, .int .u64 0] 24)) := (((Below.refl _ _).alloc (by simp) _).alloc (by simp) _).alloc (by simp; omega) _
  go_enter Tryd.func17, Tryd.ntmps17
  obtain ⟨a0, a1, a2, a3⟩ := row_c4 hX0
  obtain ⟨c0, c1, c2, c3⟩ := row_c4 hM0
  go_wp2_with fail
  refine (less_is X M true HL.out hXt hM _).mono ?_
  rintro e w1 ⟨rfl, hb1⟩
  clear a0 a1 a2 a3 c0 c1 c2 c3
  replace hX0 := row_below hX0 hb1 hX0.lt
  replace hR0 := row_below hR0 hb1 hR0.lt
  replace hb0 := hb0.trans (hb1.mono hb0.size)
  clear hb1 hM0
  obtain ⟨a0, a1, a2, a3⟩ := row_c4 hX0
  obtain ⟨d0, d1, d2, d3⟩ := row_c4 hR0
  obtain ⟨f0, f1, f2, f3⟩ := row_f4 hR0
  go_wp2
  refine bodyPost_ret (results_cell_row rfl _ _ (w.heap.size + 1 + 1) 24 #[.int .u64 (wd (X) 0), .int .u64 (wd (X) 1), .int .u64 (wd (X) 2), .int .u64 (wd (X) 3)] (0, 0) _ rfl (blk4 (put4 hR0 fun j => .int .u64 (wd X j))) Tryd.underlying24 rfl (by kernel_rfl)) rfl ⟨rfl, below_put4 hb0 (by omega) _ _ _ _⟩

/-- 2^512. -/
def top2 : Nat := w64 ^ 8
theorem acc_startw (X Y M n : Nat) (h : Y < w64 ^ n) : acc X Y M (64 * n) = 0 := by
  have e : (2 : Nat) ^ 64 = w64 := rfl
  unfold acc; rw [Nat.pow_mul, e, Nat.div_eq_of_lt h]; simp

theorem gin_of (X M : Nat) (a b c d : Int) (ha : wd X 0 = a) (hb : wd X 1 = b) (hc : wd X 2 = c) (hd : wd X 3 = d) (hX : X < M) (hM : M < top) (w : World) :
    Calls Tryd.prog 17 #[.agg #[.int .u64 a, .int .u64 b, .int .u64 c, .int .u64 d], .agg #[.int .u64 (wd (M) 0), .int .u64 (wd (M) 1), .int .u64 (wd (M) 2), .int .u64 (wd (M) 3)]] w fun e w' => e = .returned (.agg #[.int .u64 (wd (X) 0), .int .u64 (wd (X) 1), .int .u64 (wd (X) 2), .int .u64 (wd (X) 3)]) ∧ Below w.heap.size w w' := by
  subst ha hb hc hd; exact gin_small X M hX hM w

set_option maxRecDepth 100000 in
set_option maxHeartbeats 4000000 in
theorem gcut_calls (Z M : Nat) (hZ : Z < top2) (hM1 : 1 < M) (hM : M < top) (w : World) :
    Calls Tryd.prog 33 #[.agg #[.int .u64 (wd (Z) 0), .int .u64 (wd (Z) 1), .int .u64 (wd (Z) 2), .int .u64 (wd (Z) 3), .int .u64 (wd (Z) 4), .int .u64 (wd (Z) 5), .int .u64 (wd (Z) 6), .int .u64 (wd (Z) 7)], .agg #[.int .u64 (wd (M) 0), .int .u64 (wd (M) 1), .int .u64 (wd (M) 2), .int .u64 (wd (M) 3)]] w fun e w' => e = .returned (.agg #[.int .u64 (wd (Z % M) 0), .int .u64 (wd (Z % M) 1), .int .u64 (wd (Z % M) 2), .int .u64 (wd (Z % M) 3)]) ∧ Below w.heap.size w w' := by
  have hM0 : 0 < M := by omega
  obtain ⟨U, hU⟩ : ∃ U, U = 1 := ⟨_, rfl⟩
  have HZ := veil (acc_startw U Z M 8 hZ)
  clear hZ
  have hUM : U < M := by omega
  have h1 := fun W => gin_of U M 1 0 0 0 (by rw [hU]; decide) (by rw [hU]; decide) (by rw [hU]; decide) (by rw [hU]; decide) hUM hM W
  have H1 := veil h1
  clear h1
  obtain ⟨P, hP⟩ : ∃ P, P = Z % M := ⟨_, rfl⟩
  rw [← hP]
  have HP := veil (show P = U * Z % M by rw [hU, Nat.one_mul, hP])
  clear hP hU
  have hB0 : ((((w.alloc (.cells #[.int .u64 (wd (Z) 0), .int .u64 (wd (Z) 1), .int .u64 (wd (Z) 2), .int .u64 (wd (Z) 3), .int .u64 (wd (Z) 4), .int .u64 (wd (Z) 5), .int .u64 (wd (Z) 6), .int .u64 (wd (Z) 7)] 65)).alloc (.cells #[.int .u64 (wd (M) 0), .int .u64 (wd (M) 1), .int .u64 (wd (M) 2), .int .u64 (wd (M) 3)] 24)).alloc (.cells #[.int .u64 0, .int .u64 0, .int .u64 0, .int .u64 0] 24)).alloc (.cells #[.int .u64 0, .int .u64 0, .int .u64 0, .int .u64 0] 24)).rowIs w.heap.size 65 8 (fun j => .int .u64 (wd Z j)) := (((row_new (n := 8) (by simp) rfl (arr8 fun j => .int .u64 (wd Z j))).alloc _).alloc _).alloc _
  have hC0 : ((((w.alloc (.cells #[.int .u64 (wd (Z) 0), .int .u64 (wd (Z) 1), .int .u64 (wd (Z) 2), .int .u64 (wd (Z) 3), .int .u64 (wd (Z) 4), .int .u64 (wd (Z) 5), .int .u64 (wd (Z) 6), .int .u64 (wd (Z) 7)] 65)).alloc (.cells #[.int .u64 (wd (M) 0), .int .u64 (wd (M) 1), .int .u64 (wd (M) 2), .int .u64 (wd (M) 3)] 24)).alloc (.cells #[.int .u64 0, .int .u64 0, .int .u64 0, .int .u64 0] 24)).alloc (.cells #[.int .u64 0, .int .u64 0, .int .u64 0, .int .u64 0] 24)).rowIs (w.heap.size + 1) 24 4 (fun j => .int .u64 (wd M j)) := ((row_new (n := 4) (by simp) rfl (arr4 fun j => .int .u64 (wd M j))).alloc _).alloc _
  have hR0 : ((((w.alloc (.cells #[.int .u64 (wd (Z) 0), .int .u64 (wd (Z) 1), .int .u64 (wd (Z) 2), .int .u64 (wd (Z) 3), .int .u64 (wd (Z) 4), .int .u64 (wd (Z) 5), .int .u64 (wd (Z) 6), .int .u64 (wd (Z) 7)] 65)).alloc (.cells #[.int .u64 (wd (M) 0), .int .u64 (wd (M) 1), .int .u64 (wd (M) 2), .int .u64 (wd (M) 3)] 24)).alloc (.cells #[.int .u64 0, .int .u64 0, .int .u64 0, .int .u64 0] 24)).alloc (.cells #[.int .u64 0, .int .u64 0, .int .u64 0, .int .u64 0] 24)).rowIs (w.heap.size + 1 + 1) 24 4 (fun _ => .int .u64 0) := (row_new (n := 4) (by simp) rfl (arr4 fun _ => .int .u64 0)).alloc _
  have hO0 : ((((w.alloc (.cells #[.int .u64 (wd (Z) 0), .int .u64 (wd (Z) 1), .int .u64 (wd (Z) 2), .int .u64 (wd (Z) 3), .int .u64 (wd (Z) 4), .int .u64 (wd (Z) 5), .int .u64 (wd (Z) 6), .int .u64 (wd (Z) 7)] 65)).alloc (.cells #[.int .u64 (wd (M) 0), .int .u64 (wd (M) 1), .int .u64 (wd (M) 2), .int .u64 (wd (M) 3)] 24)).alloc (.cells #[.int .u64 0, .int .u64 0, .int .u64 0, .int .u64 0] 24)).alloc (.cells #[.int .u64 0, .int .u64 0, .int .u64 0, .int .u64 0] 24)).rowIs (w.heap.size + 1 + 1 + 1) 24 4 (fun _ => .int .u64 0) := row_new (n := 4) (by simp) rfl (arr4 fun _ => .int .u64 0)
  have hb0 : Below w.heap.size w ((((w.alloc (.cells #[.int .u64 (wd (Z) 0), .int .u64 (wd (Z) 1), .int .u64 (wd (Z) 2), .int .u64 (wd (Z) 3), .int .u64 (wd (Z) 4), .int .u64 (wd (Z) 5), .int .u64 (wd (Z) 6), .int .u64 (wd (Z) 7)] 65)).alloc (.cells #[.int .u64 (wd (M) 0), .int .u64 (wd (M) 1), .int .u64 (wd (M) 2), .int .u64 (wd (M) 3)] 24)).alloc (.cells #[.int .u64 0, .int .u64 0, .int .u64 0, .int .u64 0] 24)).alloc (.cells #[.int .u64 0, .int .u64 0, .int .u64 0, .int .u64 0] 24)) := ((((Below.refl _ _).alloc (by simp) _).alloc (by simp) _).alloc (by simp; omega) _).alloc (by simp; omega) _
  have hz0 : w.heap.size + 1 + 1 + 1 < ((((w.alloc (.cells #[.int .u64 (wd (Z) 0), .int .u64 (wd (Z) 1), .int .u64 (wd (Z) 2), .int .u64 (wd (Z) 3), .int .u64 (wd (Z) 4), .int .u64 (wd (Z) 5), .int .u64 (wd (Z) 6), .int .u64 (wd (Z) 7)] 65)).alloc (.cells #[.int .u64 (wd (M) 0), .int .u64 (wd (M) 1), .int .u64 (wd (M) 2), .int .u64 (wd (M) 3)] 24)).alloc (.cells #[.int .u64 0, .int .u64 0, .int .u64 0, .int .u64 0] 24)).alloc (.cells #[.int .u64 0, .int .u64 0, .int .u64 0, .int .u64 0] 24)).heap.size := by simp
  obtain ⟨c0, c1, c2, c3⟩ := row_c4 hC0
  go_enter Tryd.func33, Tryd.ntmps33
  go_wp2_with fail
  refine (H1.out _).mono ?_
  rintro e w1 ⟨rfl, hb1⟩
  clear c0 c1 c2 c3
  replace hB0 := (row_below hB0 hb1 hB0.lt).alloc (.cells #[.int .u64 (wd (U) 0), .int .u64 (wd (U) 1), .int .u64 (wd (U) 2), .int .u64 (wd (U) 3)] 24)
  replace hC0 := (row_below hC0 hb1 hC0.lt).alloc (.cells #[.int .u64 (wd (U) 0), .int .u64 (wd (U) 1), .int .u64 (wd (U) 2), .int .u64 (wd (U) 3)] 24)
  replace hR0 := (row_below hR0 hb1 hR0.lt).alloc (.cells #[.int .u64 (wd (U) 0), .int .u64 (wd (U) 1), .int .u64 (wd (U) 2), .int .u64 (wd (U) 3)] 24)
  replace hO0 := (row_below hO0 hb1 hO0.lt).alloc (.cells #[.int .u64 (wd (U) 0), .int .u64 (wd (U) 1), .int .u64 (wd (U) 2), .int .u64 (wd (U) 3)] 24)
  replace hz0 : w.heap.size + 1 + 1 + 1 < w1.heap.size := Nat.lt_of_lt_of_le hz0 hb1.size
  replace hb0 := (hb0.trans (hb1.mono hb0.size)).alloc (by omega) (.cells #[.int .u64 (wd (U) 0), .int .u64 (wd (U) 1), .int .u64 (wd (U) 2), .int .u64 (wd (U) 3)] 24)
  have hA0 : (w1.alloc (.cells #[.int .u64 (wd (U) 0), .int .u64 (wd (U) 1), .int .u64 (wd (U) 2), .int .u64 (wd (U) 3)] 24)).rowIs w1.heap.size 24 4 (fun j => .int .u64 (wd U j)) := row_new (n := 4) rfl rfl (arr4 fun j => .int .u64 (wd U j))
  clear hb1
  go_wp2_with fail
  generalize w1.heap.size = g at *
  generalize w1.alloc (.cells #[.int .u64 (wd (U) 0), .int .u64 (wd (U) 1), .int .u64 (wd (U) 2), .int .u64 (wd (U) 3)] 24) = w0 at *
  go_loopw [7] (fun i wr => ∃ k : Nat, k ≤ 8 ∧ i = .int .i64 ((k : Int) - 1) ∧ wr.rowIs g 24 4 (fun j => .int .u64 (wd U j)) ∧ wr.rowIs w.heap.size 65 8 (fun j => .int .u64 (wd Z j)) ∧ wr.rowIs (w.heap.size + 1) 24 4 (fun j => .int .u64 (wd M j)) ∧ wr.rowIs (w.heap.size + 1 + 1) 24 4 (fun _ => .int .u64 0) ∧ wr.rowIs (w.heap.size + 1 + 1 + 1) 24 4 (fun j => .int .u64 (wd (acc U Z M (64 * k)) j)) ∧ Below w.heap.size w wr)
    (fun i _ => (intOf i + 1).toNat)
  case atStart => exact ⟨8, by omega, rfl, hA0, hB0, hC0, hR0, hO0.congr (fun j hj => by rw [HZ.out]; unfold wd dg; simp), hb0⟩
  case round =>
    obtain ⟨k, hk, hi, hA, hB, hC, hR, hO, hbel⟩ := hrel
    clear hA0 hB0 hC0 hR0 hO0 hb0
    cases k with
    | zero =>
      subst hi
      have hO := hO.congr (g := fun j => .int .u64 (wd P j)) (fun j _ => by rw [Nat.mul_zero, acc_end, ← HP.out])
      obtain ⟨o0, o1, o2, o3⟩ := row_c4 hO
      obtain ⟨d0, d1, d2, d3⟩ := row_c4 hR
      obtain ⟨f0, f1, f2, f3⟩ := row_f4 hR
      go_wp2
      refine bodyPost_ret (results_cell_row rfl _ _ (w.heap.size + 1 + 1) 24 #[.int .u64 (wd (P) 0), .int .u64 (wd (P) 1), .int .u64 (wd (P) 2), .int .u64 (wd (P) 3)] (0, 0) _ rfl (blk4 (put4 hR fun j => .int .u64 (wd P j))) Tryd.underlying24 rfl (by kernel_rfl)) rfl ⟨rfl, below_put4 hbel (by omega) _ _ _ _⟩
    | succ k =>
      obtain rfl : _ = Value.int .i64 (k : Int) := hi.trans (by congr 1; omega)
      clear hi
      have hk4 : k < 8 := by omega
      have c1 := hB.cell hk4
      go_wp2
      clear c1
      obtain ⟨wo, hwo⟩ : ∃ wo : World, wo = wr := ⟨_, rfl⟩
      rw [← hwo] at hA hB hC hR hO hbel ⊢
      clear hwo
      go_loopw [8, 9] (fun q kk wq => ∃ m : Nat, m ≤ 64 ∧ kk = .int .i64 m ∧ q = .int .u64 (mw Z k m : Nat) ∧ wq.rowIs g 24 4 (fun j => .int .u64 (wd U j)) ∧ wq.rowIs w.heap.size 65 8 (fun j => .int .u64 (wd Z j)) ∧ wq.rowIs (w.heap.size + 1) 24 4 (fun j => .int .u64 (wd M j)) ∧ wq.rowIs (w.heap.size + 1 + 1) 24 4 (fun _ => .int .u64 0) ∧ wq.rowIs (w.heap.size + 1 + 1 + 1) 24 4 (fun j => .int .u64 (wd (acc U Z M (64 * (k + 1) - m)) j)) ∧ Below w.heap.size w wq)
        (fun _ kk _ => 64 - (intOf kk).toNat)
      case atStart => exact ⟨0, by omega, rfl, by rw [mw_zero]; rfl, hA, hB, hC, hR, hO, hbel⟩
      case round =>
        obtain ⟨m, hm, rfl, rfl, hA, hB, hC, hR, hO, hbel⟩ := hrel
        by_cases hlt : m < 64
        · have hq := mw_lt Z k m
          have hs : IntKind.u64.wrap ((mw Z k m : Nat) + (mw Z k m : Nat)) = ((mw Z k (m + 1) : Nat) : Int) := by
            rw [IntKind.wrap_u64, ← mw_succ]; generalize mw Z k m = z; omega
          have ht := mw_top Z k m hlt
          obtain ⟨z, hz⟩ : ∃ z : Int, z = ((mw Z k m : Nat) : Int) := ⟨_, rfl⟩
          rw [← hz] at hs ⊢
          have hz0 : 0 ≤ z := by omega
          have hz1 : z < 18446744073709551616 := by omega
          obtain ⟨n, hn⟩ : ∃ n, n = 64 * k + (63 - m) := ⟨_, rfl⟩
          rw [← hn] at ht
          rw [show 64 * (k + 1) - m = n + 1 by omega] at hO
          have hVM := acc_lt (X := U) (Y := Z) (n := n + 1) hM0
          have e1 := acc_twice U Z M n
          have e2 := acc_more U Z M n
          generalize acc U Z M (n + 1) = V at *
          obtain ⟨D, hD⟩ : ∃ D, D = (V + V) % M := ⟨_, rfl⟩
          rw [← hD] at e1 e2
          have hDM : D < M := by rw [hD]; exact Nat.mod_lt _ hM0
          have h1 := fun W => gadd_calls V V M hVM hVM hM W
          rw [← hD] at h1
          have H1 := veil h1
          clear h1
          obtain ⟨o0, o1, o2, o3⟩ := row_c4 hO
          obtain ⟨c0, c1, c2, c3⟩ := row_c4 hC
          by_cases hbit : 9223372036854775808 ≤ mw Z k m
          · have h2 := fun W => gadd_calls D U M hDM hUM hM W
            rw [e2 (ht.1 hbit)] at h2
            have H2 := veil h2
            have hbI : 9223372036854775808 ≤ z := by omega
            clear h2 e1 e2 hD ht hq hbit hz
            have hN := veil hn
            clear hn
            obtain ⟨T, hT⟩ : ∃ T, T = acc U Z M n := ⟨_, rfl⟩
            rw [← hT] at H2
            have HT := veil hT
            clear hT
            go_wp2_with fail
            refine (H1.out _).mono ?_
            rintro e w1 ⟨rfl, hb1⟩
            clear o0 o1 o2 o3 c0 c1 c2 c3
            replace hA := row_below hA hb1 hA.lt
            replace hB := row_below hB hb1 hB.lt
            replace hC := row_below hC hb1 hC.lt
            replace hR := row_below hR hb1 hR.lt
            replace hO := row_below hO hb1 hO.lt
            replace hbel := hbel.trans (hb1.mono hbel.size)
            clear hb1
            obtain ⟨o0, o1, o2, o3⟩ := row_c4 hO
            obtain ⟨f0, f1, f2, f3⟩ := row_f4 hO
            go_upto_region 11 with (fail)
            replace hA := row_far4 hA (b' := w.heap.size + 1 + 1 + 1) (by omega) (.int .u64 (wd D 0)) (.int .u64 (wd D 1)) (.int .u64 (wd D 2)) (.int .u64 (wd D 3))
            replace hB := row_far4 hB (b' := w.heap.size + 1 + 1 + 1) (by omega) (.int .u64 (wd D 0)) (.int .u64 (wd D 1)) (.int .u64 (wd D 2)) (.int .u64 (wd D 3))
            replace hC := row_far4 hC (b' := w.heap.size + 1 + 1 + 1) (by omega) (.int .u64 (wd D 0)) (.int .u64 (wd D 1)) (.int .u64 (wd D 2)) (.int .u64 (wd D 3))
            replace hR := row_far4 hR (b' := w.heap.size + 1 + 1 + 1) (by omega) (.int .u64 (wd D 0)) (.int .u64 (wd D 1)) (.int .u64 (wd D 2)) (.int .u64 (wd D 3))
            replace hbel := below_put4 (b := w.heap.size + 1 + 1 + 1) hbel (by omega) (.int .u64 (wd D 0)) (.int .u64 (wd D 1)) (.int .u64 (wd D 2)) (.int .u64 (wd D 3))
            replace hO := put4 hO (fun j => .int .u64 (wd D j))
            clear o0 o1 o2 o3 f0 f1 f2 f3
            generalize (((w1.setCell ⟨w.heap.size + 1 + 1 + 1, 0, none⟩ (.int .u64 (wd D 0))).setCell ⟨w.heap.size + 1 + 1 + 1, 1, none⟩ (.int .u64 (wd D 1))).setCell ⟨w.heap.size + 1 + 1 + 1, 2, none⟩ (.int .u64 (wd D 2))).setCell ⟨w.heap.size + 1 + 1 + 1, 3, none⟩ (.int .u64 (wd D 3)) = v1 at *
            obtain ⟨o0, o1, o2, o3⟩ := row_c4 hO
            obtain ⟨c0, c1, c2, c3⟩ := row_c4 hC
            obtain ⟨a0, a1, a2, a3⟩ := row_c4 hA
            go_wp2_with fail
            refine (H2.out _).mono ?_
            rintro e w2 ⟨rfl, hb2⟩
            clear o0 o1 o2 o3 c0 c1 c2 c3 a0 a1 a2 a3
            replace hA := row_below hA hb2 hA.lt
            replace hB := row_below hB hb2 hB.lt
            replace hC := row_below hC hb2 hC.lt
            replace hR := row_below hR hb2 hR.lt
            replace hO := row_below hO hb2 hO.lt
            replace hbel := hbel.trans (hb2.mono hbel.size)
            clear hb2
            obtain ⟨o0, o1, o2, o3⟩ := row_c4 hO
            obtain ⟨f0, f1, f2, f3⟩ := row_f4 hO
            go_upto_region 13 with (fail)
            replace hA := row_far4 hA (b' := w.heap.size + 1 + 1 + 1) (by omega) (.int .u64 (wd T 0)) (.int .u64 (wd T 1)) (.int .u64 (wd T 2)) (.int .u64 (wd T 3))
            replace hB := row_far4 hB (b' := w.heap.size + 1 + 1 + 1) (by omega) (.int .u64 (wd T 0)) (.int .u64 (wd T 1)) (.int .u64 (wd T 2)) (.int .u64 (wd T 3))
            replace hC := row_far4 hC (b' := w.heap.size + 1 + 1 + 1) (by omega) (.int .u64 (wd T 0)) (.int .u64 (wd T 1)) (.int .u64 (wd T 2)) (.int .u64 (wd T 3))
            replace hR := row_far4 hR (b' := w.heap.size + 1 + 1 + 1) (by omega) (.int .u64 (wd T 0)) (.int .u64 (wd T 1)) (.int .u64 (wd T 2)) (.int .u64 (wd T 3))
            replace hbel := below_put4 (b := w.heap.size + 1 + 1 + 1) hbel (by omega) (.int .u64 (wd T 0)) (.int .u64 (wd T 1)) (.int .u64 (wd T 2)) (.int .u64 (wd T 3))
            replace hO := put4 hO (fun j => .int .u64 (wd T j))
            clear o0 o1 o2 o3 f0 f1 f2 f3
            generalize (((w2.setCell ⟨w.heap.size + 1 + 1 + 1, 0, none⟩ (.int .u64 (wd T 0))).setCell ⟨w.heap.size + 1 + 1 + 1, 1, none⟩ (.int .u64 (wd T 1))).setCell ⟨w.heap.size + 1 + 1 + 1, 2, none⟩ (.int .u64 (wd T 2))).setCell ⟨w.heap.size + 1 + 1 + 1, 3, none⟩ (.int .u64 (wd T 3)) = v2 at *
            obtain ⟨o0, o1, o2, o3⟩ := row_c4 hO
            obtain ⟨c0, c1, c2, c3⟩ := row_c4 hC
            go_wp2
            go_roundw
            case rel => exact ⟨m + 1, by omega, by go_num, rfl, hA, hB, hC, hR, by rw [show 64 * (k + 1) - (m + 1) = n by have := hN.out; omega, ← HT.out]; exact hO, hbel⟩
            case measure => simp [intOf]; omega
          · have e1 := e1 (by have := ht.2; omega)
            have hbI : z < 9223372036854775808 := by omega
            have hN := veil hn
            have E1 := veil e1
            clear e1 e2 hD ht hq hbit hz hn
            go_wp2_with fail
            refine (H1.out _).mono ?_
            rintro e w1 ⟨rfl, hb1⟩
            clear o0 o1 o2 o3 c0 c1 c2 c3
            replace hA := row_below hA hb1 hA.lt
            replace hB := row_below hB hb1 hB.lt
            replace hC := row_below hC hb1 hC.lt
            replace hR := row_below hR hb1 hR.lt
            replace hO := row_below hO hb1 hO.lt
            replace hbel := hbel.trans (hb1.mono hbel.size)
            clear hb1
            obtain ⟨o0, o1, o2, o3⟩ := row_c4 hO
            obtain ⟨f0, f1, f2, f3⟩ := row_f4 hO
            go_upto_region 11 with (fail)
            replace hA := row_far4 hA (b' := w.heap.size + 1 + 1 + 1) (by omega) (.int .u64 (wd D 0)) (.int .u64 (wd D 1)) (.int .u64 (wd D 2)) (.int .u64 (wd D 3))
            replace hB := row_far4 hB (b' := w.heap.size + 1 + 1 + 1) (by omega) (.int .u64 (wd D 0)) (.int .u64 (wd D 1)) (.int .u64 (wd D 2)) (.int .u64 (wd D 3))
            replace hC := row_far4 hC (b' := w.heap.size + 1 + 1 + 1) (by omega) (.int .u64 (wd D 0)) (.int .u64 (wd D 1)) (.int .u64 (wd D 2)) (.int .u64 (wd D 3))
            replace hR := row_far4 hR (b' := w.heap.size + 1 + 1 + 1) (by omega) (.int .u64 (wd D 0)) (.int .u64 (wd D 1)) (.int .u64 (wd D 2)) (.int .u64 (wd D 3))
            replace hbel := below_put4 (b := w.heap.size + 1 + 1 + 1) hbel (by omega) (.int .u64 (wd D 0)) (.int .u64 (wd D 1)) (.int .u64 (wd D 2)) (.int .u64 (wd D 3))
            replace hO := put4 hO (fun j => .int .u64 (wd D j))
            clear o0 o1 o2 o3 f0 f1 f2 f3
            generalize (((w1.setCell ⟨w.heap.size + 1 + 1 + 1, 0, none⟩ (.int .u64 (wd D 0))).setCell ⟨w.heap.size + 1 + 1 + 1, 1, none⟩ (.int .u64 (wd D 1))).setCell ⟨w.heap.size + 1 + 1 + 1, 2, none⟩ (.int .u64 (wd D 2))).setCell ⟨w.heap.size + 1 + 1 + 1, 3, none⟩ (.int .u64 (wd D 3)) = v1 at *
            obtain ⟨o0, o1, o2, o3⟩ := row_c4 hO
            obtain ⟨c0, c1, c2, c3⟩ := row_c4 hC
            go_wp2
            go_roundw
            case rel => exact ⟨m + 1, by omega, by go_num, rfl, hA, hB, hC, hR, by rw [show 64 * (k + 1) - (m + 1) = n by have := hN.out; omega, ← E1.out]; exact hO, hbel⟩
            case measure => simp [intOf]; omega
        · obtain rfl : m = 64 := by omega
          go_wp2
          go_roundw
          case rel => exact ⟨k, by omega, by go_num, hA, hB, hC, hR, by rw [show 64 * (k + 1) - 64 = 64 * k by omega] at hO; exact hO, hbel⟩
          case measure => simp [intOf]

end Go.Proofs.YthgenmoiendakaaDoor


/-
  clapperref02.In.
-/
namespace Go.Proofs.YthgenmoiendakaaDoor
open Go.RowKit

theorem top_le_top2 : top ≤ top2 := by
  show w64 ^ 4 ≤ w64 ^ 8
  exact Nat.pow_le_pow_right w64_pos (by omega)
/-- Cut of a wide number that is a number. -/
theorem gcut_num (X M P : Nat) (hP : X % M = P) (hX : X < top) (hM1 : 1 < M) (hM : M < top) (w : World) :
    Calls Tryd.prog 33 #[.agg #[.int .u64 (wd X 0), .int .u64 (wd X 1), .int .u64 (wd X 2), .int .u64 (wd X 3), .int .u64 0, .int .u64 0, .int .u64 0, .int .u64 0], .agg #[.int .u64 (wd (M) 0), .int .u64 (wd (M) 1), .int .u64 (wd (M) 2), .int .u64 (wd (M) 3)]] w fun e w' => e = .returned (.agg #[.int .u64 (wd (P) 0), .int .u64 (wd (P) 1), .int .u64 (wd (P) 2), .int .u64 (wd (P) 3)]) ∧ Below w.heap.size w w' := by
  subst hP
  obtain ⟨e4, e5, e6, e7⟩ := num_wide X hX
  have h := gcut_calls X M (Nat.lt_of_lt_of_le hX top_le_top2) hM1 hM w
  rw [e4, e5, e6, e7] at h
  exact h

set_option maxRecDepth 100000 in
set_option maxHeartbeats 2000000 in
theorem gin_big (X M P : Nat) (hP : X % M = P) (hX : X < top) (hXM : decide (X < M) = false) (hM1 : 1 < M) (hM : M < top) (w : World) :
    Calls Tryd.prog 17 #[.agg #[.int .u64 (wd (X) 0), .int .u64 (wd (X) 1), .int .u64 (wd (X) 2), .int .u64 (wd (X) 3)], .agg #[.int .u64 (wd (M) 0), .int .u64 (wd (M) 1), .int .u64 (wd (M) 2), .int .u64 (wd (M) 3)]] w fun e w' => e = .returned (.agg #[.int .u64 (wd (P) 0), .int .u64 (wd (P) 1), .int .u64 (wd (P) 2), .int .u64 (wd (P) 3)]) ∧ Below w.heap.size w w' := by
  have HL := veil hXM
  have h2 := fun W => gcut_num X M P hP hX hM1 hM W
  have H2 := veil h2
  clear h2 hXM hP
  have hX0 : (((w.alloc (.cells #[.int .u64 (wd (X) 0), .int .u64 (wd (X) 1), .int .u64 (wd (X) 2), .int .u64 (wd (X) 3)] 24)).alloc (.cells #[.int .u64 (wd (M) 0), .int .u64 (wd (M) 1), .int .u64 (wd (M) 2), .int .u64 (wd (M) 3)] 24)).alloc (.cells #[.int .u64 0, .int .u64 0, .int .u64 0, .int .u64 0] 24)).rowIs w.heap.size 24 4 (fun j => .int .u64 (wd X j)) := ((row_new (n := 4) (by simp) rfl (arr4 fun j => .int .u64 (wd X j))).alloc _).alloc _
  have hM0 : (((w.alloc (.cells #[.int .u64 (wd (X) 0), .int .u64 (wd (X) 1), .int .u64 (wd (X) 2), .int .u64 (wd (X) 3)] 24)).alloc (.cells #[.int .u64 (wd (M) 0), .int .u64 (wd (M) 1), .int .u64 (wd (M) 2), .int .u64 (wd (M) 3)] 24)).alloc (.cells #[.int .u64 0, .int .u64 0, .int .u64 0, .int .u64 0] 24)).rowIs (w.heap.size + 1) 24 4 (fun j => .int .u64 (wd M j)) := (row_new (n := 4) (by simp) rfl (arr4 fun j => .int .u64 (wd M j))).alloc _
  have hR0 : (((w.alloc (.cells #[.int .u64 (wd (X) 0), .int .u64 (wd (X) 1), .int .u64 (wd (X) 2), .int .u64 (wd (X) 3)] 24)).alloc (.cells #[.int .u64 (wd (M) 0), .int .u64 (wd (M) 1), .int .u64 (wd (M) 2), .int .u64 (wd (M) 3)] 24)).alloc (.cells #[.int .u64 0, .int .u64 0, .int .u64 0, .int .u64 0] 24)).rowIs (w.heap.size + 1 + 1) 24 4 (fun _ => .int .u64 0) := row_new (n := 4) (by simp) rfl (arr4 fun _ => .int .u64 0)
  have hb0 : Below w.heap.size w (((w.alloc (.cells #[.int .u64 (wd (X) 0), .int .u64 (wd (X) 1), .int .u64 (wd (X) 2), .int .u64 (wd (X) 3)] 24)).alloc (.cells #[.int .u64 (wd (M) 0), .int .u64 (wd (M) 1), .int .u64 (wd (M) 2), .int .u64 (wd (M) 3)] 24)).alloc (.cells #[.int .u64 0, .int .u64 0, .int .u64 0, .int .u64 0] 24)) := (((Below.refl _ _).alloc (by simp) _).alloc (by simp) _).alloc (by simp; omega) _
  go_enter Tryd.func17, Tryd.ntmps17
  obtain ⟨a0, a1, a2, a3⟩ := row_c4 hX0
  obtain ⟨c0, c1, c2, c3⟩ := row_c4 hM0
  go_wp2_with fail
  refine (less_is X M false HL.out hX hM _).mono ?_
  rintro e w1 ⟨rfl, hb1⟩
  clear a0 a1 a2 a3 c0 c1 c2 c3
  replace hX0 := row_below hX0 hb1 hX0.lt
  replace hM0 := row_below hM0 hb1 hM0.lt
  replace hR0 := row_below hR0 hb1 hR0.lt
  replace hb0 := hb0.trans (hb1.mono hb0.size)
  clear hb1
  obtain ⟨a0, a1, a2, a3⟩ := row_c4 hX0
  obtain ⟨c0, c1, c2, c3⟩ := row_c4 hM0
  obtain ⟨d0, d1, d2, d3⟩ := row_c4 hR0
  obtain ⟨f0, f1, f2, f3⟩ := row_f4 hR0
  go_wp2_with fail
  refine (H2.out _).mono ?_
  rintro e w2 ⟨rfl, hb1⟩
  clear a0 a1 a2 a3 c0 c1 c2 c3 d0 d1 d2 d3 f0 f1 f2 f3
  replace hR0 := row_below hR0 hb1 hR0.lt
  replace hb0 := hb0.trans (hb1.mono hb0.size)
  clear hb1 hX0 hM0
  obtain ⟨d0, d1, d2, d3⟩ := row_c4 hR0
  obtain ⟨f0, f1, f2, f3⟩ := row_f4 hR0
  go_wp2
  refine bodyPost_ret (results_cell_row rfl _ _ (w.heap.size + 1 + 1) 24 #[.int .u64 (wd (P) 0), .int .u64 (wd (P) 1), .int .u64 (wd (P) 2), .int .u64 (wd (P) 3)] (0, 0) _ rfl (blk4 (put4 hR0 fun j => .int .u64 (wd P j))) Tryd.underlying24 rfl (by kernel_rfl)) rfl ⟨rfl, below_put4 hb0 (by omega) _ _ _ _⟩
/-- clapperref02.In: a number modulo M. -/
theorem gin_calls (X M : Nat) (hX : X < top) (hM1 : 1 < M) (hM : M < top) (w : World) :
    Calls Tryd.prog 17 #[.agg #[.int .u64 (wd (X) 0), .int .u64 (wd (X) 1), .int .u64 (wd (X) 2), .int .u64 (wd (X) 3)], .agg #[.int .u64 (wd (M) 0), .int .u64 (wd (M) 1), .int .u64 (wd (M) 2), .int .u64 (wd (M) 3)]] w fun e w' => e = .returned (.agg #[.int .u64 (wd (X % M) 0), .int .u64 (wd (X % M) 1), .int .u64 (wd (X % M) 2), .int .u64 (wd (X % M) 3)]) ∧ Below w.heap.size w w' := by
  by_cases h : X < M
  · rw [Nat.mod_eq_of_lt h]; exact gin_small X M h hM w
  · exact gin_big X M _ rfl hX (by simpa using h) hM1 hM w

end Go.Proofs.YthgenmoiendakaaDoor
