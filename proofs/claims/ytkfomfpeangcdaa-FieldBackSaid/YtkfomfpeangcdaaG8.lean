/-
  clapperref02.half: half of a number modulo an odd one.
-/
import Derived.Test.YtkfomfpeangcdaaG7
namespace Go.Proofs.Ytkfomfpeangcdaa
open Go.RowKit

theorem dg_half (X m : Nat) : dg w64 (X / 2) m = dg w64 X m / 2 + 9223372036854775808 * (dg w64 X (m + 1) % 2) := by
  unfold dg
  rw [Nat.pow_succ, ← Nat.div_div_eq_div_mul, Nat.div_div_eq_div_mul X 2, Nat.mul_comm 2, ← Nat.div_div_eq_div_mul]
  generalize X / w64 ^ m = q
  unfold w64
  omega
theorem wd_half_odd (X m : Nat) (h : wd X (m + 1) % 2 = 1) : wd X m / 2 + 9223372036854775808 = wd (X / 2) m := by
  have e := dg_half X m
  unfold wd at *
  rw [e]; generalize dg w64 X m = a at *; generalize dg w64 X (m + 1) = b at *; omega
theorem wd_half_even (X m : Nat) (h : wd X (m + 1) % 2 = 0) : wd X m / 2 = wd (X / 2) m := by
  have e := dg_half X m
  unfold wd at *
  rw [e]; generalize dg w64 X m = a at *; generalize dg w64 X (m + 1) = b at *; omega
theorem wd_half_top (X : Nat) (h : X < top) : wd X 3 / 2 = wd (X / 2) 3 :=
  wd_half_even X 3 (by rw [(num_wide X h).1]; rfl)
theorem row_mix2 {X Z k : Nat} {v : Value} (_hk : k < 4) : ∀ i, i < 4 → (if i = k then Value.int .u64 (wd Z k) else if i = k then v else Value.int .u64 (if i < k then wd Z i else wd X i)) = Value.int .u64 (if i < k + 1 then wd Z i else wd X i) := by
  intro i _
  by_cases h : i = k
  · subst h; simp
  · rw [if_neg h, if_neg h]; by_cases h2 : i < k
    · rw [if_pos h2, if_pos (by omega)]
    · rw [if_neg h2, if_neg (by omega)]
theorem wd_par (X : Nat) : wd X 0 % 2 = ((X % 2 : Nat) : Int) := by
  unfold wd dg w64; rw [Nat.pow_zero, Nat.div_one]; omega

/-- D is half of 2^256 + S. -/
def HalfTop (S D : Nat) : Prop := (∀ j, j < 3 → wd (S / 2) j = wd D j) ∧ wd (S / 2) 3 + 9223372036854775808 = wd D 3 ∧ wd (S / 2) 3 < 9223372036854775808
theorem halfTop {S : Nat} (h : S < top) : HalfTop S ((S + top) / 2) := by
  have h1 : ∀ j, j < 4 → dg w64 (S + top) j = dg w64 S j := by
    intro j hj
    have e := dg_mod (B := w64) (S + top) 4 j hj
    have e0 : (S + top) % w64 ^ 4 = S := by
      rw [show w64 ^ 4 = top from rfl, Nat.add_mod_right]; exact Nat.mod_eq_of_lt h
    rw [← e, e0]
  have h2 : dg w64 (S + top) 4 = 1 := by
    show (S + top) / top % w64 = 1
    rw [Nat.add_div_right _ top_pos, Nat.div_eq_of_lt h]; rfl
  have h3 : dg w64 S 4 = 0 := by
    show S / top % w64 = 0
    rw [Nat.div_eq_of_lt h]; rfl
  have hl := dg_lt w64_pos S 3
  have e3 := dg_half S 3
  have f3 := dg_half (S + top) 3
  rw [h3] at e3
  rw [h2, h1 3 (by omega)] at f3
  have hw : w64 = 18446744073709551616 := rfl
  refine ⟨fun j hj => ?_, ?_, ?_⟩
  · unfold wd; rw [dg_half, dg_half (S + top), h1 j (by omega), h1 (j + 1) (by omega)]
  · unfold wd; rw [e3, f3]; omega
  · unfold wd; rw [e3]; omega

set_option maxHeartbeats 4000000 in
theorem ghalf_even (X M : Nat) (hVt : X < top) (h : X % 2 = 0) (w : World) :
    Calls Try.prog 44 #[.agg #[.int .u64 (wd (X) 0), .int .u64 (wd (X) 1), .int .u64 (wd (X) 2), .int .u64 (wd (X) 3)], .agg #[.int .u64 (wd (M) 0), .int .u64 (wd (M) 1), .int .u64 (wd (M) 2), .int .u64 (wd (M) 3)]] w fun e w' => e = .returned (.agg #[.int .u64 (wd (X / 2) 0), .int .u64 (wd (X / 2) 1), .int .u64 (wd (X / 2) 2), .int .u64 (wd (X / 2) 3)]) ∧ Below w.heap.size w w' := by
  have hp : wd X 0 % 2 = 0 := by rw [wd_par, h]; rfl
  have hp0 := wd_lo X 0
  clear h
  have hA0 : (((w.alloc (.cells #[.int .u64 (wd (X) 0), .int .u64 (wd (X) 1), .int .u64 (wd (X) 2), .int .u64 (wd (X) 3)] 24)).alloc (.cells #[.int .u64 (wd (M) 0), .int .u64 (wd (M) 1), .int .u64 (wd (M) 2), .int .u64 (wd (M) 3)] 24)).alloc (.cells #[.int .u64 0, .int .u64 0, .int .u64 0, .int .u64 0] 24)).rowIs w.heap.size 24 4 (fun j => .int .u64 (wd X j)) := ((row_new (n := 4) (by simp) rfl (arr4 fun j => .int .u64 (wd X j))).alloc _).alloc _
  have hM0 : (((w.alloc (.cells #[.int .u64 (wd (X) 0), .int .u64 (wd (X) 1), .int .u64 (wd (X) 2), .int .u64 (wd (X) 3)] 24)).alloc (.cells #[.int .u64 (wd (M) 0), .int .u64 (wd (M) 1), .int .u64 (wd (M) 2), .int .u64 (wd (M) 3)] 24)).alloc (.cells #[.int .u64 0, .int .u64 0, .int .u64 0, .int .u64 0] 24)).rowIs (w.heap.size + 1) 24 4 (fun j => .int .u64 (wd M j)) := (row_new (n := 4) (by simp) rfl (arr4 fun j => .int .u64 (wd M j))).alloc _
  have hR0 : (((w.alloc (.cells #[.int .u64 (wd (X) 0), .int .u64 (wd (X) 1), .int .u64 (wd (X) 2), .int .u64 (wd (X) 3)] 24)).alloc (.cells #[.int .u64 (wd (M) 0), .int .u64 (wd (M) 1), .int .u64 (wd (M) 2), .int .u64 (wd (M) 3)] 24)).alloc (.cells #[.int .u64 0, .int .u64 0, .int .u64 0, .int .u64 0] 24)).rowIs (w.heap.size + 1 + 1) 24 4 (fun _ => .int .u64 0) := row_new (n := 4) (by simp) rfl (arr4 fun _ => .int .u64 0)
  have hb0 : Below w.heap.size w (((w.alloc (.cells #[.int .u64 (wd (X) 0), .int .u64 (wd (X) 1), .int .u64 (wd (X) 2), .int .u64 (wd (X) 3)] 24)).alloc (.cells #[.int .u64 (wd (M) 0), .int .u64 (wd (M) 1), .int .u64 (wd (M) 2), .int .u64 (wd (M) 3)] 24)).alloc (.cells #[.int .u64 0, .int .u64 0, .int .u64 0, .int .u64 0] 24)) := (((Below.refl _ _).alloc (by simp) _).alloc (by simp) _).alloc (by simp; omega) _
  go_enter Try.func44, Try.ntmps44
  go_wp2_with fail
  clear hp hp0 hM0
  generalize (((w.alloc (.cells #[.int .u64 (wd (X) 0), .int .u64 (wd (X) 1), .int .u64 (wd (X) 2), .int .u64 (wd (X) 3)] 24)).alloc (.cells #[.int .u64 (wd (M) 0), .int .u64 (wd (M) 1), .int .u64 (wd (M) 2), .int .u64 (wd (M) 3)] 24)).alloc (.cells #[.int .u64 0, .int .u64 0, .int .u64 0, .int .u64 0] 24)) = w0 at *
  go_loopw [6] (fun i wr => ∃ k : Nat, k ≤ 4 ∧ i = .int .i64 (k : Int) ∧ wr.rowIs w.heap.size 24 4 (fun j => .int .u64 (if j < k then wd (X / 2) j else wd X j)) ∧ wr.rowIs (w.heap.size + 1 + 1) 24 4 (fun _ => .int .u64 0) ∧ Below w.heap.size w wr)
    (fun i _ => 4 - (intOf i).toNat)
  case atStart => exact ⟨0, by omega, rfl, hA0.congr (fun j _ => by simp), hR0, hb0⟩
  case round =>
    obtain ⟨k, hk, rfl, hA, hR, hbel⟩ := hrel
    clear hA0 hR0 hb0
    by_cases hlt : k < 4
    · have c1 := hA.cell hlt
      rw [if_neg (by omega)] at c1
      have f1 := hA.frozen k
      have l1 := wd_lo X k
      have u1 := wd_le X k
      by_cases h3 : k < 3
      · have c2 := hA.cell (show k + 1 < 4 by omega)
        rw [if_neg (by omega)] at c2
        have h3i : (k : Int) < 3 := by omega
        have l2 := wd_lo X (k + 1)
        by_cases hb : wd X (k + 1) % 2 = 1
        · have HC := veil (wd_half_odd X k hb)
          go_wp2
          go_roundw
          case rel =>
            rw [HC.out]
            exact ⟨k + 1, by omega, by go_num, ((hA.set k _).set k _).congr (row_mix2 hlt), row_far (row_far hR (by omega) _) (by omega) _, below_set (below_set hbel (by omega) _) (by omega) _⟩
          case measure => simp [intOf]; omega
        · have hb0 : wd X (k + 1) % 2 = 0 := by omega
          have HC := veil (wd_half_even X k hb0)
          clear hb
          go_wp2
          go_roundw
          case rel =>
            rw [HC.out]
            exact ⟨k + 1, by omega, by go_num, (hA.set k _).congr (row_mix hlt), row_far hR (by omega) _, below_set hbel (by omega) _⟩
          case measure => simp [intOf]; omega
      · obtain rfl : k = 3 := by omega
        have HC := veil (wd_half_top X hVt)
        go_wp2
        go_roundw
        case rel =>
          rw [HC.out]
          exact ⟨4, by omega, by go_num, (hA.set 3 _).congr (row_mix (by omega)), row_far hR (by omega) _, below_set hbel (by omega) _⟩
        case measure => simp [intOf]
    · obtain rfl : k = 4 := by omega
      have hA := hA.congr (g := fun j => .int .u64 (wd (X / 2) j)) (fun j hj => by rw [if_pos hj])
      obtain ⟨a0, a1, a2, a3⟩ := row_c4 hA
      obtain ⟨d0, d1, d2, d3⟩ := row_c4 hR
      obtain ⟨f0, f1, f2, f3⟩ := row_f4 hR
      go_wp2
      refine bodyPost_ret (results_cell_row rfl _ _ (w.heap.size + 1 + 1) 24 #[.int .u64 (wd ((X / 2)) 0), .int .u64 (wd ((X / 2)) 1), .int .u64 (wd ((X / 2)) 2), .int .u64 (wd ((X / 2)) 3)] (0, 0) _ rfl (blk4 (put4 hR fun j => .int .u64 (wd (X / 2) j))) Try.underlying24 rfl (by kernel_rfl)) rfl ⟨rfl, below_put4 hbel (by omega) _ _ _ _⟩

set_option maxHeartbeats 4000000 in
theorem ghalf_no (X M S : Nat) (hX : X < top) (hM : M < top) (h : X % 2 = 1) (hS : (X + M) % top = S) (hu : decide (top ≤ X + M) = false) (w : World) :
    Calls Try.prog 44 #[.agg #[.int .u64 (wd (X) 0), .int .u64 (wd (X) 1), .int .u64 (wd (X) 2), .int .u64 (wd (X) 3)], .agg #[.int .u64 (wd (M) 0), .int .u64 (wd (M) 1), .int .u64 (wd (M) 2), .int .u64 (wd (M) 3)]] w fun e w' => e = .returned (.agg #[.int .u64 (wd ((S / 2)) 0), .int .u64 (wd ((S / 2)) 1), .int .u64 (wd ((S / 2)) 2), .int .u64 (wd ((S / 2)) 3)]) ∧ Below w.heap.size w w' := by
  have hp : wd X 0 % 2 = 1 := by rw [wd_par, h]; rfl
  have hp0 := wd_lo X 0
  have hVt : S < top := by rw [← hS]; exact Nat.mod_lt _ top_pos
  have HS := veil hS
  have HU := veil hu
  clear h hS hu
  have hA0 : (((w.alloc (.cells #[.int .u64 (wd (X) 0), .int .u64 (wd (X) 1), .int .u64 (wd (X) 2), .int .u64 (wd (X) 3)] 24)).alloc (.cells #[.int .u64 (wd (M) 0), .int .u64 (wd (M) 1), .int .u64 (wd (M) 2), .int .u64 (wd (M) 3)] 24)).alloc (.cells #[.int .u64 0, .int .u64 0, .int .u64 0, .int .u64 0] 24)).rowIs w.heap.size 24 4 (fun j => .int .u64 (wd X j)) := ((row_new (n := 4) (by simp) rfl (arr4 fun j => .int .u64 (wd X j))).alloc _).alloc _
  have hM0 : (((w.alloc (.cells #[.int .u64 (wd (X) 0), .int .u64 (wd (X) 1), .int .u64 (wd (X) 2), .int .u64 (wd (X) 3)] 24)).alloc (.cells #[.int .u64 (wd (M) 0), .int .u64 (wd (M) 1), .int .u64 (wd (M) 2), .int .u64 (wd (M) 3)] 24)).alloc (.cells #[.int .u64 0, .int .u64 0, .int .u64 0, .int .u64 0] 24)).rowIs (w.heap.size + 1) 24 4 (fun j => .int .u64 (wd M j)) := (row_new (n := 4) (by simp) rfl (arr4 fun j => .int .u64 (wd M j))).alloc _
  have hR0 : (((w.alloc (.cells #[.int .u64 (wd (X) 0), .int .u64 (wd (X) 1), .int .u64 (wd (X) 2), .int .u64 (wd (X) 3)] 24)).alloc (.cells #[.int .u64 (wd (M) 0), .int .u64 (wd (M) 1), .int .u64 (wd (M) 2), .int .u64 (wd (M) 3)] 24)).alloc (.cells #[.int .u64 0, .int .u64 0, .int .u64 0, .int .u64 0] 24)).rowIs (w.heap.size + 1 + 1) 24 4 (fun _ => .int .u64 0) := row_new (n := 4) (by simp) rfl (arr4 fun _ => .int .u64 0)
  have hb0 : Below w.heap.size w (((w.alloc (.cells #[.int .u64 (wd (X) 0), .int .u64 (wd (X) 1), .int .u64 (wd (X) 2), .int .u64 (wd (X) 3)] 24)).alloc (.cells #[.int .u64 (wd (M) 0), .int .u64 (wd (M) 1), .int .u64 (wd (M) 2), .int .u64 (wd (M) 3)] 24)).alloc (.cells #[.int .u64 0, .int .u64 0, .int .u64 0, .int .u64 0] 24)) := (((Below.refl _ _).alloc (by simp) _).alloc (by simp) _).alloc (by simp; omega) _
  go_enter Try.func44, Try.ntmps44
  obtain ⟨a0, a1, a2, a3⟩ := row_c4 hA0
  obtain ⟨c0, c1, c2, c3⟩ := row_c4 hM0
  go_wp2_with fail
  refine (plus_is X M S false HS.out HU.out hX hM _).mono ?_
  rintro e w1 ⟨rfl, hb1⟩
  clear a0 a1 a2 a3 c0 c1 c2 c3 hp hp0
  replace hA0 := row_below hA0 hb1 hA0.lt
  replace hR0 := row_below hR0 hb1 hR0.lt
  replace hb0 := hb0.trans (hb1.mono hb0.size)
  clear hb1 hM0
  obtain ⟨a0, a1, a2, a3⟩ := row_c4 hA0
  obtain ⟨f0, f1, f2, f3⟩ := row_f4 hA0
  go_wp2_with fail
  replace hR0 := row_far4 hR0 (b' := w.heap.size) (by omega) (.int .u64 (wd S 0)) (.int .u64 (wd S 1)) (.int .u64 (wd S 2)) (.int .u64 (wd S 3))
  replace hb0 := below_put4 (b := w.heap.size) hb0 (by omega) (.int .u64 (wd S 0)) (.int .u64 (wd S 1)) (.int .u64 (wd S 2)) (.int .u64 (wd S 3))
  replace hA0 := put4 hA0 (fun j => .int .u64 (wd S j))
  clear a0 a1 a2 a3 f0 f1 f2 f3
  generalize ((((w1.setCell ⟨w.heap.size, 0, none⟩ (.int .u64 (wd S 0))).setCell ⟨w.heap.size, 1, none⟩ (.int .u64 (wd S 1))).setCell ⟨w.heap.size, 2, none⟩ (.int .u64 (wd S 2))).setCell ⟨w.heap.size, 3, none⟩ (.int .u64 (wd S 3))) = w0 at *
  go_loopw [6] (fun i wr => ∃ k : Nat, k ≤ 4 ∧ i = .int .i64 (k : Int) ∧ wr.rowIs w.heap.size 24 4 (fun j => .int .u64 (if j < k then wd (S / 2) j else wd S j)) ∧ wr.rowIs (w.heap.size + 1 + 1) 24 4 (fun _ => .int .u64 0) ∧ Below w.heap.size w wr)
    (fun i _ => 4 - (intOf i).toNat)
  case atStart => exact ⟨0, by omega, rfl, hA0.congr (fun j _ => by simp), hR0, hb0⟩
  case round =>
    obtain ⟨k, hk, rfl, hA, hR, hbel⟩ := hrel
    clear hA0 hR0 hb0
    by_cases hlt : k < 4
    · have c1 := hA.cell hlt
      rw [if_neg (by omega)] at c1
      have f1 := hA.frozen k
      have l1 := wd_lo S k
      have u1 := wd_le S k
      by_cases h3 : k < 3
      · have c2 := hA.cell (show k + 1 < 4 by omega)
        rw [if_neg (by omega)] at c2
        have h3i : (k : Int) < 3 := by omega
        have l2 := wd_lo S (k + 1)
        by_cases hb : wd S (k + 1) % 2 = 1
        · have HC := veil (wd_half_odd S k hb)
          go_wp2
          go_roundw
          case rel =>
            rw [HC.out]
            exact ⟨k + 1, by omega, by go_num, ((hA.set k _).set k _).congr (row_mix2 hlt), row_far (row_far hR (by omega) _) (by omega) _, below_set (below_set hbel (by omega) _) (by omega) _⟩
          case measure => simp [intOf]; omega
        · have hb0 : wd S (k + 1) % 2 = 0 := by omega
          have HC := veil (wd_half_even S k hb0)
          clear hb
          go_wp2
          go_roundw
          case rel =>
            rw [HC.out]
            exact ⟨k + 1, by omega, by go_num, (hA.set k _).congr (row_mix hlt), row_far hR (by omega) _, below_set hbel (by omega) _⟩
          case measure => simp [intOf]; omega
      · obtain rfl : k = 3 := by omega
        have HC := veil (wd_half_top S hVt)
        go_wp2
        go_roundw
        case rel =>
          rw [HC.out]
          exact ⟨4, by omega, by go_num, (hA.set 3 _).congr (row_mix (by omega)), row_far hR (by omega) _, below_set hbel (by omega) _⟩
        case measure => simp [intOf]
    · obtain rfl : k = 4 := by omega
      have hA := hA.congr (g := fun j => .int .u64 (wd (S / 2) j)) (fun j hj => by rw [if_pos hj])
      obtain ⟨a0, a1, a2, a3⟩ := row_c4 hA
      obtain ⟨d0, d1, d2, d3⟩ := row_c4 hR
      obtain ⟨f0, f1, f2, f3⟩ := row_f4 hR
      go_wp2
      refine bodyPost_ret (results_cell_row rfl _ _ (w.heap.size + 1 + 1) 24 #[.int .u64 (wd ((S / 2)) 0), .int .u64 (wd ((S / 2)) 1), .int .u64 (wd ((S / 2)) 2), .int .u64 (wd ((S / 2)) 3)] (0, 0) _ rfl (blk4 (put4 hR fun j => .int .u64 (wd (S / 2) j))) Try.underlying24 rfl (by kernel_rfl)) rfl ⟨rfl, below_put4 hbel (by omega) _ _ _ _⟩

set_option maxHeartbeats 4000000 in
theorem ghalf_over (X M S : Nat) (D : Nat) (hD : HalfTop S D) (hX : X < top) (hM : M < top) (h : X % 2 = 1) (hS : (X + M) % top = S) (hu : decide (top ≤ X + M) = true) (w : World) :
    Calls Try.prog 44 #[.agg #[.int .u64 (wd (X) 0), .int .u64 (wd (X) 1), .int .u64 (wd (X) 2), .int .u64 (wd (X) 3)], .agg #[.int .u64 (wd (M) 0), .int .u64 (wd (M) 1), .int .u64 (wd (M) 2), .int .u64 (wd (M) 3)]] w fun e w' => e = .returned (.agg #[.int .u64 (wd (D) 0), .int .u64 (wd (D) 1), .int .u64 (wd (D) 2), .int .u64 (wd (D) 3)]) ∧ Below w.heap.size w w' := by
  have hp : wd X 0 % 2 = 1 := by rw [wd_par, h]; rfl
  have hp0 := wd_lo X 0
  have hVt : S < top := by rw [← hS]; exact Nat.mod_lt _ top_pos
  have HS := veil hS
  have HU := veil hu
  clear h hS hu
  have hA0 : (((w.alloc (.cells #[.int .u64 (wd (X) 0), .int .u64 (wd (X) 1), .int .u64 (wd (X) 2), .int .u64 (wd (X) 3)] 24)).alloc (.cells #[.int .u64 (wd (M) 0), .int .u64 (wd (M) 1), .int .u64 (wd (M) 2), .int .u64 (wd (M) 3)] 24)).alloc (.cells #[.int .u64 0, .int .u64 0, .int .u64 0, .int .u64 0] 24)).rowIs w.heap.size 24 4 (fun j => .int .u64 (wd X j)) := ((row_new (n := 4) (by simp) rfl (arr4 fun j => .int .u64 (wd X j))).alloc _).alloc _
  have hM0 : (((w.alloc (.cells #[.int .u64 (wd (X) 0), .int .u64 (wd (X) 1), .int .u64 (wd (X) 2), .int .u64 (wd (X) 3)] 24)).alloc (.cells #[.int .u64 (wd (M) 0), .int .u64 (wd (M) 1), .int .u64 (wd (M) 2), .int .u64 (wd (M) 3)] 24)).alloc (.cells #[.int .u64 0, .int .u64 0, .int .u64 0, .int .u64 0] 24)).rowIs (w.heap.size + 1) 24 4 (fun j => .int .u64 (wd M j)) := (row_new (n := 4) (by simp) rfl (arr4 fun j => .int .u64 (wd M j))).alloc _
  have hR0 : (((w.alloc (.cells #[.int .u64 (wd (X) 0), .int .u64 (wd (X) 1), .int .u64 (wd (X) 2), .int .u64 (wd (X) 3)] 24)).alloc (.cells #[.int .u64 (wd (M) 0), .int .u64 (wd (M) 1), .int .u64 (wd (M) 2), .int .u64 (wd (M) 3)] 24)).alloc (.cells #[.int .u64 0, .int .u64 0, .int .u64 0, .int .u64 0] 24)).rowIs (w.heap.size + 1 + 1) 24 4 (fun _ => .int .u64 0) := row_new (n := 4) (by simp) rfl (arr4 fun _ => .int .u64 0)
  have hb0 : Below w.heap.size w (((w.alloc (.cells #[.int .u64 (wd (X) 0), .int .u64 (wd (X) 1), .int .u64 (wd (X) 2), .int .u64 (wd (X) 3)] 24)).alloc (.cells #[.int .u64 (wd (M) 0), .int .u64 (wd (M) 1), .int .u64 (wd (M) 2), .int .u64 (wd (M) 3)] 24)).alloc (.cells #[.int .u64 0, .int .u64 0, .int .u64 0, .int .u64 0] 24)) := (((Below.refl _ _).alloc (by simp) _).alloc (by simp) _).alloc (by simp; omega) _
  go_enter Try.func44, Try.ntmps44
  obtain ⟨a0, a1, a2, a3⟩ := row_c4 hA0
  obtain ⟨c0, c1, c2, c3⟩ := row_c4 hM0
  go_wp2_with fail
  refine (plus_is X M S true HS.out HU.out hX hM _).mono ?_
  rintro e w1 ⟨rfl, hb1⟩
  clear a0 a1 a2 a3 c0 c1 c2 c3 hp hp0
  replace hA0 := row_below hA0 hb1 hA0.lt
  replace hR0 := row_below hR0 hb1 hR0.lt
  replace hb0 := hb0.trans (hb1.mono hb0.size)
  clear hb1 hM0
  obtain ⟨a0, a1, a2, a3⟩ := row_c4 hA0
  obtain ⟨f0, f1, f2, f3⟩ := row_f4 hA0
  go_wp2_with fail
  replace hR0 := row_far4 hR0 (b' := w.heap.size) (by omega) (.int .u64 (wd S 0)) (.int .u64 (wd S 1)) (.int .u64 (wd S 2)) (.int .u64 (wd S 3))
  replace hb0 := below_put4 (b := w.heap.size) hb0 (by omega) (.int .u64 (wd S 0)) (.int .u64 (wd S 1)) (.int .u64 (wd S 2)) (.int .u64 (wd S 3))
  replace hA0 := put4 hA0 (fun j => .int .u64 (wd S j))
  clear a0 a1 a2 a3 f0 f1 f2 f3
  generalize ((((w1.setCell ⟨w.heap.size, 0, none⟩ (.int .u64 (wd S 0))).setCell ⟨w.heap.size, 1, none⟩ (.int .u64 (wd S 1))).setCell ⟨w.heap.size, 2, none⟩ (.int .u64 (wd S 2))).setCell ⟨w.heap.size, 3, none⟩ (.int .u64 (wd S 3))) = w0 at *
  go_loopw [6] (fun i wr => ∃ k : Nat, k ≤ 4 ∧ i = .int .i64 (k : Int) ∧ wr.rowIs w.heap.size 24 4 (fun j => .int .u64 (if j < k then wd (S / 2) j else wd S j)) ∧ wr.rowIs (w.heap.size + 1 + 1) 24 4 (fun _ => .int .u64 0) ∧ Below w.heap.size w wr)
    (fun i _ => 4 - (intOf i).toNat)
  case atStart => exact ⟨0, by omega, rfl, hA0.congr (fun j _ => by simp), hR0, hb0⟩
  case round =>
    obtain ⟨k, hk, rfl, hA, hR, hbel⟩ := hrel
    clear hA0 hR0 hb0
    by_cases hlt : k < 4
    · have c1 := hA.cell hlt
      rw [if_neg (by omega)] at c1
      have f1 := hA.frozen k
      have l1 := wd_lo S k
      have u1 := wd_le S k
      by_cases h3 : k < 3
      · have c2 := hA.cell (show k + 1 < 4 by omega)
        rw [if_neg (by omega)] at c2
        have h3i : (k : Int) < 3 := by omega
        have l2 := wd_lo S (k + 1)
        by_cases hb : wd S (k + 1) % 2 = 1
        · have HC := veil (wd_half_odd S k hb)
          go_wp2
          go_roundw
          case rel =>
            rw [HC.out]
            exact ⟨k + 1, by omega, by go_num, ((hA.set k _).set k _).congr (row_mix2 hlt), row_far (row_far hR (by omega) _) (by omega) _, below_set (below_set hbel (by omega) _) (by omega) _⟩
          case measure => simp [intOf]; omega
        · have hb0 : wd S (k + 1) % 2 = 0 := by omega
          have HC := veil (wd_half_even S k hb0)
          clear hb
          go_wp2
          go_roundw
          case rel =>
            rw [HC.out]
            exact ⟨k + 1, by omega, by go_num, (hA.set k _).congr (row_mix hlt), row_far hR (by omega) _, below_set hbel (by omega) _⟩
          case measure => simp [intOf]; omega
      · obtain rfl : k = 3 := by omega
        have HC := veil (wd_half_top S hVt)
        go_wp2
        go_roundw
        case rel =>
          rw [HC.out]
          exact ⟨4, by omega, by go_num, (hA.set 3 _).congr (row_mix (by omega)), row_far hR (by omega) _, below_set hbel (by omega) _⟩
        case measure => simp [intOf]
    · obtain rfl : k = 4 := by omega
      have hA := hA.congr (g := fun j => .int .u64 (wd (S / 2) j)) (fun j hj => by rw [if_pos hj])
      obtain ⟨a0, a1, a2, a3⟩ := row_c4 hA
      obtain ⟨d0, d1, d2, d3⟩ := row_c4 hR
      obtain ⟨f0, f1, f2, f3⟩ := row_f4 hR
      have g3 := hA.frozen 3
      have l3 := wd_lo (S / 2) 3
      obtain ⟨hD, hD3, hD4⟩ := hD
      have HD := veil hD
      have HD3 := veil hD3
      clear hD hD3
      go_upto_region 11 with (fail)
      clear d0 d1 d2 d3 f0 f1 f2 f3
      go_upto_region 12 with (fail)
      rw [HD3.out]
      replace hR := row_far hR (b' := w.heap.size) (i := 3) (by omega) (.int .u64 (wd D 3))
      replace hbel := below_set hbel (b := w.heap.size) (i := 3) (by omega) (.int .u64 (wd D 3))
      replace hA := (hA.set 3 (.int .u64 (wd D 3))).congr (g := fun j => .int .u64 (wd D j)) (fun j hj => by
        by_cases e : j = 3
        · subst e; simp
        · rw [if_neg e, HD.out j (by omega)])
      clear a0 a1 a2 a3 g3
      generalize wr.setCell ⟨w.heap.size, 3, none⟩ (.int .u64 (wd D 3)) = wz at *
      obtain ⟨a0, a1, a2, a3⟩ := row_c4 hA
      obtain ⟨d0, d1, d2, d3⟩ := row_c4 hR
      obtain ⟨f0, f1, f2, f3⟩ := row_f4 hR
      go_wp2
      refine bodyPost_ret (results_cell_row rfl _ _ (w.heap.size + 1 + 1) 24 #[.int .u64 (wd (D) 0), .int .u64 (wd (D) 1), .int .u64 (wd (D) 2), .int .u64 (wd (D) 3)] (0, 0) _ rfl (blk4 (put4 hR fun j => .int .u64 (wd D j))) Try.underlying24 rfl (by kernel_rfl)) rfl ⟨rfl, below_put4 hbel (by omega) _ _ _ _⟩

/-- Half of X modulo M. -/
def hf (X M : Nat) : Nat := if X % 2 = 0 then X / 2 else (X + M) / 2
theorem hf_lt {X M : Nat} (h : X < M) : hf X M < M := by unfold hf; split <;> omega
/-- clapperref02.half of a number below M, which is odd. -/
theorem ghalf_calls (X M : Nat) (hX : X < M) (hM : M < top) (w : World) :
    Calls Try.prog 44 #[.agg #[.int .u64 (wd (X) 0), .int .u64 (wd (X) 1), .int .u64 (wd (X) 2), .int .u64 (wd (X) 3)], .agg #[.int .u64 (wd (M) 0), .int .u64 (wd (M) 1), .int .u64 (wd (M) 2), .int .u64 (wd (M) 3)]] w fun e w' => e = .returned (.agg #[.int .u64 (wd (hf X M) 0), .int .u64 (wd (hf X M) 1), .int .u64 (wd (hf X M) 2), .int .u64 (wd (hf X M) 3)]) ∧ Below w.heap.size w w' := by
  unfold hf
  by_cases h : X % 2 = 0
  · rw [if_pos h]; exact ghalf_even X M (by omega) h w
  · rw [if_neg h]
    by_cases h2 : top ≤ X + M
    · have e : (X + M) % top = X + M - top := by rw [Nat.mod_eq_sub_mod h2, Nat.mod_eq_of_lt (by omega)]
      have hd := halfTop (S := X + M - top) (by omega)
      rw [show X + M - top + top = X + M by omega] at hd
      exact ghalf_over X M _ _ hd (by omega) hM (by omega) e (by simpa using h2) w
    · have e : (X + M) % top = X + M := Nat.mod_eq_of_lt (by omega)
      exact ghalf_no X M _ (by omega) hM (by omega) e (by simpa using h2) w
end Go.Proofs.Ytkfomfpeangcdaa
