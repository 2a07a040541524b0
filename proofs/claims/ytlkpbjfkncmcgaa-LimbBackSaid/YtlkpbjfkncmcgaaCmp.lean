/-
  limb.Cmp, clapperref01.Cmp: which of two numbers is below.
-/
import Derived.Test.YtlkpbjfkncmcgaaRAdd
namespace Go.Proofs.Ytlkpbjfkncmcgaa
open Go.RowKit

/-- -1, 0, 1: below, the same, above. -/
def cmpN (X Y : Nat) : Int := if X < Y then -1 else if Y < X then 1 else 0

theorem cmp_step (B X Y k : Nat) (hB : 0 < B) : cmpN (X % B ^ (k + 1)) (Y % B ^ (k + 1)) = if dg B X k < dg B Y k then -1 else if dg B Y k < dg B X k then 1 else cmpN (X % B ^ k) (Y % B ^ k) := by
  have hp : 0 < B ^ k := Nat.pow_pos hB
  have h1 := Nat.mod_lt X hp
  have h2 := Nat.mod_lt Y hp
  unfold cmpN
  rw [mod_succ, mod_succ]
  generalize dg B X k = x
  generalize dg B Y k = y
  generalize X % B ^ k = r at *
  generalize Y % B ^ k = s at *
  generalize B ^ k = P at *
  by_cases hxy : x < y
  · have : P * x + P ≤ P * y := by rw [← Nat.mul_succ]; exact Nat.mul_le_mul_left _ hxy
    rw [if_pos (by omega), if_pos hxy]
  · by_cases hyx : y < x
    · have : P * y + P ≤ P * x := by rw [← Nat.mul_succ]; exact Nat.mul_le_mul_left _ hyx
      rw [if_neg (by omega), if_pos (by omega), if_neg hxy, if_pos hyx]
    · have hxy' : x = y := by omega
      subst hxy'
      simp

theorem cmp_high (B X Y n m : Nat) (hB : 0 < B) (hX : X < B ^ n) (hY : Y < B ^ n) (hm : m < n) (h : ∀ j, m < j → j < n → dg B X j = dg B Y j) (hne : dg B X m ≠ dg B Y m) :
    cmpN X Y = if dg B X m < dg B Y m then -1 else 1 := by
  have e : X / B ^ (m + 1) = Y / B ^ (m + 1) := by
    have hn : B ^ n = B ^ (m + 1) * B ^ (n - (m + 1)) := by rw [← Nat.pow_add]; congr 1; omega
    refine eq_of_dg_lt hB (n := n - (m + 1)) ?_ ?_ fun i hi => ?_
    · rw [Nat.div_lt_iff_lt_mul (Nat.pow_pos hB), Nat.mul_comm, ← hn]; exact hX
    · rw [Nat.div_lt_iff_lt_mul (Nat.pow_pos hB), Nat.mul_comm, ← hn]; exact hY
    · have := h (m + 1 + i) (by omega) (by omega)
      unfold dg at *
      rwa [Nat.div_div_eq_div_mul, Nat.div_div_eq_div_mul, ← Nat.pow_add]
  have c : cmpN X Y = cmpN (X % B ^ (m + 1)) (Y % B ^ (m + 1)) := by
    have hx := Nat.mod_add_div X (B ^ (m + 1))
    have hy := Nat.mod_add_div Y (B ^ (m + 1))
    rw [e] at hx
    unfold cmpN
    generalize B ^ (m + 1) * (Y / B ^ (m + 1)) = q at *
    generalize X % B ^ (m + 1) = r at *
    generalize Y % B ^ (m + 1) = s at *
    subst hx; subst hy
    simp
  rw [c, cmp_step B X Y m hB]
  by_cases hlt : dg B X m < dg B Y m
  · rw [if_pos hlt, if_pos hlt]
  · rw [if_neg hlt, if_neg hlt, if_pos (by omega)]

set_option maxHeartbeats 400000 in
theorem compare_lt (x y : Int) (h : x < y) (w : World) : Calls Try.prog 33 #[.int .u64 x, .int .u64 y] w fun e w' => e = .returned (.int .i64 (-1)) ∧ w' = w := by
  go_enter Try.func33, Try.ntmps33
  go_wp2
  go_ret
  exact ⟨rfl, rfl⟩
set_option maxHeartbeats 400000 in
theorem compare_gt (x y : Int) (h : y < x) (w : World) : Calls Try.prog 33 #[.int .u64 x, .int .u64 y] w fun e w' => e = .returned (.int .i64 1) ∧ w' = w := by
  go_enter Try.func33, Try.ntmps33
  go_wp2
  go_ret
  exact ⟨rfl, rfl⟩

theorem wd_cmp {X Y k : Nat} (h : dg w64 X k < dg w64 Y k) : wd X k < wd Y k := by unfold wd; omega

set_option maxHeartbeats 1000000 in
theorem cmp_calls (X Y : Nat) (hX : X < top) (hY : Y < top) (w : World) :
    Calls Try.prog 15 #[.agg #[.int .u64 (wd (X) 0), .int .u64 (wd (X) 1), .int .u64 (wd (X) 2), .int .u64 (wd (X) 3)], .agg #[.int .u64 (wd (Y) 0), .int .u64 (wd (Y) 1), .int .u64 (wd (Y) 2), .int .u64 (wd (Y) 3)]] w fun e w' => e = .returned (.int .i64 (cmpN X Y)) ∧ Below w.heap.size w w' := by
  go_enter Try.func15, Try.ntmps15
  go_wp2
  go_loopw [5] (fun i wr => ∃ k : Nat, k ≤ 4 ∧ i = .int .i64 ((k : Int) - 1) ∧ (∀ j, k ≤ j → j < 4 → dg w64 X j = dg w64 Y j) ∧ wr.rowIs w.heap.size 24 4 (fun j => .int .u64 (wd X j))
      ∧ wr.rowIs (w.heap.size + 1) 24 4 (fun j => .int .u64 (wd Y j)) ∧ Below w.heap.size w wr)
    (fun i _ => (intOf i + 1).toNat)
  case atStart => exact ⟨4, by omega, rfl, by intro j h1 h2; omega, (row_new (n := 4) (by simp) rfl (arr4 fun j => .int .u64 (wd X j))).alloc _, row_new (n := 4) (by simp) rfl (arr4 fun j => .int .u64 (wd Y j)), ((Below.refl _ _).alloc (by simp) _).alloc (by simp) _⟩
  case round =>
    obtain ⟨k, hk, hi, hall, hRX, hRY, hbel⟩ := hrel
    have HALL := veil hall
    clear hall
    cases k with
    | zero =>
      subst hi
      have hXY : X = Y := eq_of_dg_lt w64_pos hX hY fun j hj => HALL.out j (Nat.zero_le _) hj
      go_wp2
      go_ret
      have hc : cmpN X Y = 0 := by unfold cmpN; rw [if_neg (by omega), if_neg (by omega)]
      rw [hc]
      exact ⟨rfl, hbel⟩
    | succ m =>
      obtain rfl : _ = Value.int .i64 (m : Int) := hi.trans (by congr 1; omega)
      have hm : m < 4 := by omega
      go_wp2
      have c1 := hRX.cell hm
      have c2 := hRY.cell hm
      rcases Nat.lt_trichotomy (dg w64 X m) (dg w64 Y m) with h | h | h
      · have hlt := wd_cmp h
        have hne : (wd X m != wd Y m) = true := by rw [bne_iff_ne]; omega
        have hc : cmpN X Y = -1 := by rw [cmp_high w64 X Y 4 m w64_pos hX hY hm (fun j h1 h2 => HALL.out j (by omega) h2) (by omega), if_pos h]
        have HC := veil hc
        clear hc
        go_quiet (fail)
        go_wp2
        go_quiet ((go_at_call 33; exact quiet_more (compare_lt _ _ hlt _)))
        go_wp2
        go_ret
        rw [HC.out]
        exact ⟨rfl, below_drewN (below_drewN hbel _) _⟩
      · have hne : (wd X m != wd Y m) = false := by unfold wd; rw [h]; simp
        go_quiet (fail)
        go_wp2
        go_roundw
        case rel => exact ⟨m, by omega, by go_num, fun j h1 h2 => by
          by_cases e : j = m
          · rw [e]; exact h
          · exact HALL.out j (by omega) h2, row_drewN hRX _, row_drewN hRY _, below_drewN hbel _⟩
        case measure => simp [intOf]
      · have hlt := wd_cmp h
        have hne : (wd X m != wd Y m) = true := by rw [bne_iff_ne]; omega
        have hc : cmpN X Y = 1 := by rw [cmp_high w64 X Y 4 m w64_pos hX hY hm (fun j h1 h2 => HALL.out j (by omega) h2) (by omega), if_neg (by omega)]
        have HC := veil hc
        clear hc
        go_quiet (fail)
        go_wp2
        go_quiet ((go_at_call 33; exact quiet_more (compare_gt _ _ hlt _)))
        go_wp2
        go_ret
        rw [HC.out]
        exact ⟨rfl, below_drewN (below_drewN hbel _) _⟩

theorem rcmp_bd (X Y k : Nat) : cmpN (X % w16 ^ k) (Y % w16 ^ k) = -1 ∨ cmpN (X % w16 ^ k) (Y % w16 ^ k) = 0 ∨ cmpN (X % w16 ^ k) (Y % w16 ^ k) = 1 := by
  unfold cmpN
  split
  · simp
  · split <;> simp

/-- Of the lowest k parts. -/
def cmpK (X Y k : Nat) : Int := cmpN (X % w16 ^ k) (Y % w16 ^ k)
theorem cmpK_lt {X Y k : Nat} (h : pt X k < pt Y k) : cmpK X Y (k + 1) = -1 := by
  unfold pt at h
  unfold cmpK
  rw [cmp_step _ _ _ _ w16_pos, if_pos (by omega)]
theorem cmpK_gt {X Y k : Nat} (h : pt Y k < pt X k) : cmpK X Y (k + 1) = 1 := by
  unfold pt at h
  unfold cmpK
  rw [cmp_step _ _ _ _ w16_pos, if_neg (by omega), if_pos (by omega)]
theorem cmpK_eq {X Y k : Nat} (h : pt X k = pt Y k) : cmpK X Y (k + 1) = cmpK X Y k := by
  unfold pt at h
  unfold cmpK
  rw [cmp_step _ _ _ _ w16_pos, if_neg (by omega), if_neg (by omega)]
theorem cmpK_top {X Y : Nat} (hX : X < top) (hY : Y < top) : cmpK X Y 16 = cmpN X Y := by
  rw [top_w16] at *
  unfold cmpK
  rw [Nat.mod_eq_of_lt hX, Nat.mod_eq_of_lt hY]

set_option maxHeartbeats 1000000 in
theorem rcmp_calls (X Y : Nat) (hX : X < top) (hY : Y < top) (w : World) :
    Calls Try.prog 16 #[.agg #[.int .u64 (wd (X) 0), .int .u64 (wd (X) 1), .int .u64 (wd (X) 2), .int .u64 (wd (X) 3)], .agg #[.int .u64 (wd (Y) 0), .int .u64 (wd (Y) 1), .int .u64 (wd (Y) 2), .int .u64 (wd (Y) 3)]] w fun e w' => e = .returned (.int .i64 (cmpN X Y)) ∧ Below w.heap.size w w' := by
  have hRB : ((w.alloc (.cells #[.int .u64 (wd (X) 0), .int .u64 (wd (X) 1), .int .u64 (wd (X) 2), .int .u64 (wd (X) 3)] 24)).alloc (.cells #[.int .u64 (wd (Y) 0), .int .u64 (wd (Y) 1), .int .u64 (wd (Y) 2), .int .u64 (wd (Y) 3)] 24)).rowIs (w.heap.size + 1) 24 4 (fun j => .int .u64 (wd Y j)) := row_new (n := 4) (by simp) rfl (arr4 fun j => .int .u64 (wd Y j))
  have hB0 : Below w.heap.size w ((w.alloc (.cells #[.int .u64 (wd (X) 0), .int .u64 (wd (X) 1), .int .u64 (wd (X) 2), .int .u64 (wd (X) 3)] 24)).alloc (.cells #[.int .u64 (wd (Y) 0), .int .u64 (wd (Y) 1), .int .u64 (wd (Y) 2), .int .u64 (wd (Y) 3)] 24)) := ((Below.refl _ _).alloc (by simp) _).alloc (by simp) _
  go_enter Try.func16, Try.ntmps16
  go_wp2_with fail
  refine (parts_calls X _).mono ?_
  rintro e w1 ⟨g1, cap1, rfl, hg1, hp1a, hb1⟩
  simp only [World.size_alloc] at hg1
  have hRB1 := row_below hRB hb1 (by simp)
  have hB1 := hB0.trans (hb1.mono (by simp; omega))
  clear hRB hB0 hb1
  obtain ⟨c0, c1, c2, c3⟩ := row_c4 hRB1
  go_wp2_with fail
  refine (parts_calls Y _).mono ?_
  rintro e w2 ⟨g2, cap2, rfl, hg2, hp2b, hb2⟩
  have hp1b := hp1a.below hb2 hp1a.lt
  have hB2 := hB1.trans (hb2.mono hB1.size)
  clear hRB1 hB1 hb2 c0 c1 c2 c3 hp1a hg2 hg1
  go_wp2
  go_loopw [7, 8] (fun c i wr => ∃ k : Nat, k ≤ 16 ∧ i = .int .i64 k ∧ c = .int .i64 (cmpK X Y k) ∧ Pre wr g1 3 16 (ptv X) ∧ Pre wr g2 3 16 (ptv Y) ∧ Below w.heap.size w wr)
    (fun _ i _ => 16 - (intOf i).toNat)
  case atStart => exact ⟨0, by omega, rfl, by simp [cmpK, cmpN, Nat.mod_one], hp1b, hp2b, hB2⟩
  case round =>
    clear hp1b hp2b hB2
    obtain ⟨k, hk, rfl, rfl, hp1, hp2, hbel⟩ := hrel
    by_cases hlt : k < 16
    · have c1 := hp1.cell hlt
      have c2 := hp2.cell hlt
      simp only [ptv] at c1 c2
      go_wp2
      rcases Int.lt_trichotomy (pt X k) (pt Y k) with h | h | h
      · have h2 : ¬ pt Y k < pt X k := by omega
        go_quiet (fail)
        go_wp2
        go_quiet (fail)
        go_wp2
        go_roundw
        case rel => exact ⟨k + 1, by omega, by go_num, by rw [cmpK_lt h], hp1.drewN _, hp2.drewN _, below_drewN hbel _⟩
        case measure => simp [intOf]; omega
      · have h1 : ¬ pt X k < pt Y k := by omega
        have h2 : ¬ pt Y k < pt X k := by omega
        have H := veil h
        clear h
        go_quiet (fail)
        go_wp2
        go_quiet (fail)
        go_wp2
        go_roundw
        case rel => exact ⟨k + 1, by omega, by go_num, by rw [cmpK_eq H.out], hp1.drewN _, hp2.drewN _, below_drewN hbel _⟩
        case measure => simp [intOf]; omega
      · have h1 : ¬ pt X k < pt Y k := by omega
        go_quiet (fail)
        go_wp2
        go_quiet (fail)
        go_wp2
        go_roundw
        case rel => exact ⟨k + 1, by omega, by go_num, by rw [cmpK_gt h], hp1.drewN _, hp2.drewN _, below_drewN hbel _⟩
        case measure => simp [intOf]; omega
    · obtain rfl : k = 16 := by omega
      go_wp2
      go_ret
      rw [← cmpK_top hX hY]
      exact ⟨rfl, hbel⟩
end Go.Proofs.Ytlkpbjfkncmcgaa
