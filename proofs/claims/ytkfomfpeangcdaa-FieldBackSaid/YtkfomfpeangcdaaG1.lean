/-
  clapperref02's add, plus, less, minus: words and numbers, as the document's answer for layer 2 reckons them.
-/
import Derived.Test.YtkfomfpeangcdaaAdd
import Derived.Test.YtkfomfpeangcdaaSub
import Derived.Test.YtkfomfpeangcdaaCmp
namespace Go.Proofs.Ytkfomfpeangcdaa
open Go.RowKit

theorem ret_u2' {a b c d : Int} (h : a = b) (h2 : c = d) : Ending.returned (.tuple #[.int .u64 a, .int .u64 c]) = .returned (.tuple #[.int .u64 b, .int .u64 d]) := by rw [h, h2]

/-- The sum of two words and a carry: no way goes over, or one does. -/
theorem gadd_core (x y c : Int) (hx : 0 ≤ x) (hx2 : x ≤ 18446744073709551615) (hy : 0 ≤ y) (hy2 : y ≤ 18446744073709551615) (hc : 0 ≤ c) (hc2 : c ≤ 1) (w : World) :
    Calls Try.prog 50 #[.int .u64 x, .int .u64 y, .int .u64 c] w fun e w' => e = .returned (.tuple #[.int .u64 ((x + y + c) % 18446744073709551616), .int .u64 ((x + y + c) / 18446744073709551616)]) ∧ w' = w := by
  obtain ⟨s, hs⟩ : ∃ s, s = (x + y) % 18446744073709551616 := ⟨_, rfl⟩
  obtain ⟨t, ht⟩ : ∃ t, t = (s + c) % 18446744073709551616 := ⟨_, rfl⟩
  have e1 : IntKind.u64.wrap (x + y) = s := by rw [IntKind.wrap_u64, hs]
  have e2 : IntKind.u64.wrap (s + c) = t := by rw [IntKind.wrap_u64, ht]
  have et : t = (x + y + c) % 18446744073709551616 := by omega
  have E := veil et
  by_cases h1 : s < x
  · have h2 : ¬ t < s := by omega
    have eo : (x + y + c) / 18446744073709551616 = 1 := by omega
    have EO := veil eo
    clear et eo hs ht hx hx2 hy hy2 hc hc2
    go_enter Try.func50, Try.ntmps50
    go_wp2
    go_ret2
    rw [EO.out, ← E.out]
    exact ⟨ret_u2' (by first | rfl | (rw [e1, e2]) | (rw [e2])) rfl, rfl⟩
  · by_cases h2 : t < s
    · have eo : (x + y + c) / 18446744073709551616 = 1 := by omega
      have EO := veil eo
      clear et eo hs ht hx hx2 hy hy2 hc hc2
      go_enter Try.func50, Try.ntmps50
      go_wp2
      go_ret2
      rw [EO.out, ← E.out]
      exact ⟨ret_u2' (by first | rfl | (rw [e1, e2]) | (rw [e2])) rfl, rfl⟩
    · have eo : (x + y + c) / 18446744073709551616 = 0 := by omega
      have EO := veil eo
      clear et eo hs ht hx hx2 hy hy2 hc hc2
      go_enter Try.func50, Try.ntmps50
      go_wp2
      go_ret2
      rw [EO.out, ← E.out]
      exact ⟨ret_u2' (by first | rfl | (rw [e1, e2]) | (rw [e2])) rfl, rfl⟩

theorem gadd_at (X Y k : Nat) (w : World) :
    Calls Try.prog 50 #[.int .u64 (wd X k), .int .u64 (wd Y k), .int .u64 (cyI X Y k)] w fun e w' => e = .returned (.tuple #[.int .u64 (wd (X + Y) k), .int .u64 (cyI X Y (k + 1))]) ∧ w = w' := by
  have hc := cy_le w64_pos X Y k
  have h := gadd_core (wd X k) (wd Y k) (cyI X Y k) (wd_lo _ _) (wd_le _ _) (wd_lo _ _) (wd_le _ _) (by unfold cyI; omega) (by unfold cyI; omega) w
  have e1 : (wd X k + wd Y k + cyI X Y k) % 18446744073709551616 = wd (X + Y) k := by
    unfold wd cyI; rw [dg_add w64_pos]; unfold w64; simp
  have e2 : (wd X k + wd Y k + cyI X Y k) / 18446744073709551616 = cyI X Y (k + 1) := by
    unfold wd cyI; rw [cy_succ w64_pos]; unfold w64; simp
  rw [e1, e2] at h
  exact h.mono fun _ _ ⟨a, b⟩ => ⟨a, b.symm⟩

theorem row_mix {X Z k : Nat} (_hk : k < 4) : ∀ i, i < 4 → (if i = k then Value.int .u64 (wd Z k) else Value.int .u64 (if i < k then wd Z i else wd X i)) = Value.int .u64 (if i < k + 1 then wd Z i else wd X i) := by
  intro i _
  by_cases h : i = k
  · subst h; simp
  · rw [if_neg h]; by_cases h2 : i < k
    · rw [if_pos h2, if_pos (by omega)]
    · rw [if_neg h2, if_neg (by omega)]
theorem cyI_one {X Y : Nat} (hX : X < top) (hY : Y < top) : (cyI X Y 4 == 1) = decide (top ≤ X + Y) := by
  unfold cyI
  rw [cy_top (n := 4) hX hY]
  show _ = decide (w64 ^ 4 ≤ X + Y)
  by_cases h : w64 ^ 4 ≤ X + Y <;> simp [h]

set_option maxHeartbeats 1000000 in
theorem plus_any (X Y : Nat) (hX : X < top) (hY : Y < top) (w : World) :
    Calls Try.prog 35 #[.agg #[.int .u64 (wd (X) 0), .int .u64 (wd (X) 1), .int .u64 (wd (X) 2), .int .u64 (wd (X) 3)], .agg #[.int .u64 (wd (Y) 0), .int .u64 (wd (Y) 1), .int .u64 (wd (Y) 2), .int .u64 (wd (Y) 3)]] w fun e w' => e = .returned (.tuple #[.agg #[.int .u64 (wd (X + Y) 0), .int .u64 (wd (X + Y) 1), .int .u64 (wd (X + Y) 2), .int .u64 (wd (X + Y) 3)], .bool (decide (top ≤ X + Y))]) ∧ Below w.heap.size w w' := by
  have HG := veil (fun (k : Nat) (W : World) => gadd_at X Y k W)
  go_enter Try.func35, Try.ntmps35
  go_wp2
  go_loopw [6, 7] (fun c i wr => ∃ k : Nat, k ≤ 4 ∧ i = .int .i64 k ∧ c = .int .u64 (cyI X Y k) ∧ wr.rowIs w.heap.size 24 4 (fun j => .int .u64 (if j < k then wd (X + Y) j else wd X j))
      ∧ wr.rowIs (w.heap.size + 1) 24 4 (fun j => .int .u64 (wd Y j)) ∧ wr.rowIs (w.heap.size + 1 + 1) 24 4 (fun _ => .int .u64 0) ∧ Below w.heap.size w wr)
    (fun _ i _ => 4 - (intOf i).toNat)
  case atStart => exact ⟨0, by omega, rfl, by simp [cyI, cy_zero], (((row_new (n := 4) (by simp) rfl (arr4 fun j => .int .u64 (wd X j))).alloc _).alloc _).congr (fun j _ => by simp), (row_new (n := 4) (by simp) rfl (arr4 fun j => .int .u64 (wd Y j))).alloc _, row_new (n := 4) (by simp) rfl (arr4 fun _ => .int .u64 0), (((Below.refl _ _).alloc (by simp) _).alloc (by simp) _).alloc (by simp; omega) _⟩
  case round =>
    obtain ⟨k, hk, rfl, rfl, hRX, hRY, hRZ, hbel⟩ := hrel
    by_cases hlt : k < 4
    · have c1 := hRX.cell hlt
      have c2 := hRY.cell hlt
      have f1 := hRX.frozen k
      rw [if_neg (by omega)] at c1
      go_wp2
      go_region_with (go_at_call 50; refine (HG.out _ _).mono ?_; rintro e w' ⟨rfl, rfl⟩)
      all_goals
        go_wp2
        go_roundw
        case rel => exact ⟨k + 1, by omega, by go_num, rfl, ((hRX.set k _).congr (row_mix hlt)).drew, (row_far hRY (by omega) _).drew, (row_far hRZ (by omega) _).drew, (below_set hbel (by omega) _).drew⟩
        case measure => simp [intOf]; omega
    · obtain rfl : k = 4 := by omega
      obtain ⟨c0, c1, c2, c3⟩ := row_c4 hRX
      obtain ⟨d0, d1, d2, d3⟩ := row_c4 hRZ
      obtain ⟨f0, f1, f2, f3⟩ := row_f4 hRZ
      simp only [show (0 : Nat) < 4 from by omega, show (1 : Nat) < 4 from by omega, show (2 : Nat) < 4 from by omega, show (3 : Nat) < 4 from by omega, if_true] at c0 c1 c2 c3
      have hz := cyI_one hX hY
      clear hRX hRY
      go_wp2
      refine bodyPost_ret (results_cell_tmp2 rfl _ _ (w.heap.size + 1 + 1) 24 #[.int .u64 (wd (X + Y) 0), .int .u64 (wd (X + Y) 1), .int .u64 (wd (X + Y) 2), .int .u64 (wd (X + Y) 3)] (0, 0) 4 22 rfl (blk4 (put4 hRZ fun j => .int .u64 (wd (X + Y) j))) Try.underlying24 (by kernel_rfl)) rfl ⟨?_, below_put4 hbel (by omega) _ _ _ _⟩
      rfl
theorem plus_calls (X Y : Nat) (hX : X < top) (hY : Y < top) (w : World) :
    Calls Try.prog 35 #[.agg #[.int .u64 (wd (X) 0), .int .u64 (wd (X) 1), .int .u64 (wd (X) 2), .int .u64 (wd (X) 3)], .agg #[.int .u64 (wd (Y) 0), .int .u64 (wd (Y) 1), .int .u64 (wd (Y) 2), .int .u64 (wd (Y) 3)]] w fun e w' => e = .returned (.tuple #[.agg #[.int .u64 (wd ((X + Y) % top) 0), .int .u64 (wd ((X + Y) % top) 1), .int .u64 (wd ((X + Y) % top) 2), .int .u64 (wd ((X + Y) % top) 3)], .bool (decide (top ≤ X + Y))]) ∧ Below w.heap.size w w' := by
  rw [wd_mod _ 0 (by omega), wd_mod _ 1 (by omega), wd_mod _ 2 (by omega), wd_mod _ 3 (by omega)]
  exact plus_any X Y hX hY w

theorem lt_high {X Y m : Nat} (hX : X < top) (hY : Y < top) (hm : m < 4) (h : ∀ j, m < j → j < 4 → dg w64 X j = dg w64 Y j) (hne : dg w64 X m ≠ dg w64 Y m) : decide (X < Y) = decide (wd X m < wd Y m) := by
  have hc := cmp_high w64 X Y 4 m w64_pos hX hY hm h hne
  unfold cmpN at hc
  unfold wd
  by_cases h1 : dg w64 X m < dg w64 Y m
  · rw [if_pos h1] at hc
    by_cases h2 : X < Y
    · simp [h1, h2]
    · rw [if_neg h2] at hc; split at hc <;> omega
  · rw [if_neg h1] at hc
    by_cases h2 : X < Y
    · rw [if_pos h2] at hc; omega
    · simp [h1, h2]

set_option maxHeartbeats 1000000 in
theorem less_calls (X Y : Nat) (hX : X < top) (hY : Y < top) (w : World) :
    Calls Try.prog 33 #[.agg #[.int .u64 (wd (X) 0), .int .u64 (wd (X) 1), .int .u64 (wd (X) 2), .int .u64 (wd (X) 3)], .agg #[.int .u64 (wd (Y) 0), .int .u64 (wd (Y) 1), .int .u64 (wd (Y) 2), .int .u64 (wd (Y) 3)]] w fun e w' => e = .returned (.bool (decide (X < Y))) ∧ Below w.heap.size w w' := by
  go_enter Try.func33, Try.ntmps33
  go_wp2
  go_loopw [5] (fun i wr => ∃ k : Nat, k ≤ 4 ∧ i = .int .i64 ((k : Int) - 1) ∧ (∀ j, k ≤ j → j < 4 → dg w64 X j = dg w64 Y j) ∧ wr.rowIs w.heap.size 24 4 (fun j => .int .u64 (wd X j))
      ∧ wr.rowIs (w.heap.size + 1) 24 4 (fun j => .int .u64 (wd Y j)) ∧ Below w.heap.size w wr)
    (fun i _ => (intOf i + 1).toNat)
  case atStart => exact ⟨4, by omega, rfl, by intro j h1 h2; omega, (row_new (n := 4) (by simp) rfl (arr4 fun j => .int .u64 (wd X j))).alloc _, row_new (n := 4) (by simp) rfl (arr4 fun j => .int .u64 (wd Y j)), ((Below.refl _ _).alloc (by simp) _).alloc (by simp) _⟩
  case round =>
    obtain ⟨k, hk, hi, hall, hRX, hRY, hbel⟩ := hrel
    have HALL := veil hall
    clear hall
    cases k with
    | zero =>
      subst hi
      have hXY : X = Y := eq_of_dg_lt w64_pos hX hY fun j hj => HALL.out j (Nat.zero_le _) hj
      have HXY := veil hXY
      clear hXY
      go_wp2
      go_ret
      rw [show decide (X < Y) = false by rw [HXY.out]; simp]
      exact ⟨rfl, hbel⟩
    | succ m =>
      obtain rfl : _ = Value.int .i64 (m : Int) := hi.trans (by congr 1; omega)
      have hm : m < 4 := by omega
      go_wp2
      have c1 := hRX.cell hm
      have c2 := hRY.cell hm
      by_cases h : dg w64 X m = dg w64 Y m
      · have hne : (wd X m != wd Y m) = false := by unfold wd; rw [h]; simp
        go_quiet (fail)
        go_wp2
        go_roundw
        case rel => exact ⟨m, by omega, by go_num, fun j h1 h2 => by
          by_cases e : j = m
          · rw [e]; exact h
          · exact HALL.out j (by omega) h2, row_drewN hRX _, row_drewN hRY _, below_drewN hbel _⟩
        case measure => simp [intOf]
      · have hne : (wd X m != wd Y m) = true := by rw [bne_iff_ne]; unfold wd; omega
        have HC := veil (lt_high hX hY hm (fun j h1 h2 => HALL.out j (by omega) h2) h)
        clear h
        go_quiet (fail)
        go_wp2
        go_quiet (fail)
        go_wp2
        go_ret
        rw [HC.out]
        exact ⟨rfl, below_drewN (below_drewN hbel _) _⟩
end Go.Proofs.Ytkfomfpeangcdaa
