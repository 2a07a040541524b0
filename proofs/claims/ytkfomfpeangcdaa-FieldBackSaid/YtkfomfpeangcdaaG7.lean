/-
  clapperref02.In of any number; Pow: squared, and taken once more, as the bits say.
-/
import Derived.Test.YtkfomfpeangcdaaG6
import Derived.Test.YtkfomfpeangcdaaBit
namespace Go.Proofs.Ytkfomfpeangcdaa
open Go.RowKit

theorem num_wide (X : Nat) (h : X < top) : wd X 4 = 0 ∧ wd X 5 = 0 ∧ wd X 6 = 0 ∧ wd X 7 = 0 := by
  have e : ∀ i, 4 ≤ i → wd X i = 0 := by
    intro i hi
    unfold wd dg
    rw [Nat.div_eq_of_lt (Nat.lt_of_lt_of_le h (Nat.pow_le_pow_right w64_pos hi))]; rfl
  exact ⟨e 4 (by omega), e 5 (by omega), e 6 (by omega), e 7 (by omega)⟩
theorem top_le_top2 : top ≤ top2 := by
  show w64 ^ 4 ≤ w64 ^ 8
  exact Nat.pow_le_pow_right w64_pos (by omega)
/-- Cut of a wide number that is a number. -/
theorem gcut_num (X M P : Nat) (hP : X % M = P) (hX : X < top) (hM1 : 1 < M) (hM : M < top) (w : World) :
    Calls Try.prog 15 #[.agg #[.int .u64 (wd X 0), .int .u64 (wd X 1), .int .u64 (wd X 2), .int .u64 (wd X 3), .int .u64 0, .int .u64 0, .int .u64 0, .int .u64 0], .agg #[.int .u64 (wd (M) 0), .int .u64 (wd (M) 1), .int .u64 (wd (M) 2), .int .u64 (wd (M) 3)]] w fun e w' => e = .returned (.agg #[.int .u64 (wd (P) 0), .int .u64 (wd (P) 1), .int .u64 (wd (P) 2), .int .u64 (wd (P) 3)]) ∧ Below w.heap.size w w' := by
  subst hP
  obtain ⟨e4, e5, e6, e7⟩ := num_wide X hX
  have h := gcut_calls X M (Nat.lt_of_lt_of_le hX top_le_top2) hM1 hM w
  rw [e4, e5, e6, e7] at h
  exact h

set_option maxHeartbeats 2000000 in
theorem gin_big (X M P : Nat) (hP : X % M = P) (hX : X < top) (hXM : decide (X < M) = false) (hM1 : 1 < M) (hM : M < top) (w : World) :
    Calls Try.prog 16 #[.agg #[.int .u64 (wd (X) 0), .int .u64 (wd (X) 1), .int .u64 (wd (X) 2), .int .u64 (wd (X) 3)], .agg #[.int .u64 (wd (M) 0), .int .u64 (wd (M) 1), .int .u64 (wd (M) 2), .int .u64 (wd (M) 3)]] w fun e w' => e = .returned (.agg #[.int .u64 (wd (P) 0), .int .u64 (wd (P) 1), .int .u64 (wd (P) 2), .int .u64 (wd (P) 3)]) ∧ Below w.heap.size w w' := by
  have HL := veil hXM
  have h2 := fun W => gcut_num X M P hP hX hM1 hM W
  have H2 := veil h2
  clear h2 hXM hP
  have hX0 : (((w.alloc (.cells #[.int .u64 (wd (X) 0), .int .u64 (wd (X) 1), .int .u64 (wd (X) 2), .int .u64 (wd (X) 3)] 24)).alloc (.cells #[.int .u64 (wd (M) 0), .int .u64 (wd (M) 1), .int .u64 (wd (M) 2), .int .u64 (wd (M) 3)] 24)).alloc (.cells #[.int .u64 0, .int .u64 0, .int .u64 0, .int .u64 0] 24)).rowIs w.heap.size 24 4 (fun j => .int .u64 (wd X j)) := ((row_new (n := 4) (by simp) rfl (arr4 fun j => .int .u64 (wd X j))).alloc _).alloc _
  have hM0 : (((w.alloc (.cells #[.int .u64 (wd (X) 0), .int .u64 (wd (X) 1), .int .u64 (wd (X) 2), .int .u64 (wd (X) 3)] 24)).alloc (.cells #[.int .u64 (wd (M) 0), .int .u64 (wd (M) 1), .int .u64 (wd (M) 2), .int .u64 (wd (M) 3)] 24)).alloc (.cells #[.int .u64 0, .int .u64 0, .int .u64 0, .int .u64 0] 24)).rowIs (w.heap.size + 1) 24 4 (fun j => .int .u64 (wd M j)) := (row_new (n := 4) (by simp) rfl (arr4 fun j => .int .u64 (wd M j))).alloc _
  have hR0 : (((w.alloc (.cells #[.int .u64 (wd (X) 0), .int .u64 (wd (X) 1), .int .u64 (wd (X) 2), .int .u64 (wd (X) 3)] 24)).alloc (.cells #[.int .u64 (wd (M) 0), .int .u64 (wd (M) 1), .int .u64 (wd (M) 2), .int .u64 (wd (M) 3)] 24)).alloc (.cells #[.int .u64 0, .int .u64 0, .int .u64 0, .int .u64 0] 24)).rowIs (w.heap.size + 1 + 1) 24 4 (fun _ => .int .u64 0) := row_new (n := 4) (by simp) rfl (arr4 fun _ => .int .u64 0)
  have hb0 : Below w.heap.size w (((w.alloc (.cells #[.int .u64 (wd (X) 0), .int .u64 (wd (X) 1), .int .u64 (wd (X) 2), .int .u64 (wd (X) 3)] 24)).alloc (.cells #[.int .u64 (wd (M) 0), .int .u64 (wd (M) 1), .int .u64 (wd (M) 2), .int .u64 (wd (M) 3)] 24)).alloc (.cells #[.int .u64 0, .int .u64 0, .int .u64 0, .int .u64 0] 24)) := (((Below.refl _ _).alloc (by simp) _).alloc (by simp) _).alloc (by simp; omega) _
  go_enter Try.func16, Try.ntmps16
  obtain ⟨a0, a1, a2, a3⟩ := row_c4 hX0
  obtain ⟨c0, c1, c2, c3⟩ := row_c4 hM0
  go_wp2_with fail
  refine (less_is X M false HL.out hX hM _).mono ?_
  rintro e w1 ⟨rfl, hb1⟩
  clear a0 a1 a2 a3 c0 c1 c2 c3
  replace hX0 := row_below hX0 hb1 hX0.lt
  replace hM0 := row_below hM0 hb1 hM0.lt
  replace hR0 := row_below hR0 hb1 hR0.lt
  replace hb0 := hb0.trans (hb1.mono hb0.size)
  clear hb1
  obtain ⟨a0, a1, a2, a3⟩ := row_c4 hX0
  obtain ⟨c0, c1, c2, c3⟩ := row_c4 hM0
  obtain ⟨d0, d1, d2, d3⟩ := row_c4 hR0
  obtain ⟨f0, f1, f2, f3⟩ := row_f4 hR0
  go_wp2_with fail
  refine (H2.out _).mono ?_
  rintro e w2 ⟨rfl, hb1⟩
  clear a0 a1 a2 a3 c0 c1 c2 c3 d0 d1 d2 d3 f0 f1 f2 f3
  replace hR0 := row_below hR0 hb1 hR0.lt
  replace hb0 := hb0.trans (hb1.mono hb0.size)
  clear hb1 hX0 hM0
  obtain ⟨d0, d1, d2, d3⟩ := row_c4 hR0
  obtain ⟨f0, f1, f2, f3⟩ := row_f4 hR0
  go_wp2
  refine bodyPost_ret (results_cell_row rfl _ _ (w.heap.size + 1 + 1) 24 #[.int .u64 (wd (P) 0), .int .u64 (wd (P) 1), .int .u64 (wd (P) 2), .int .u64 (wd (P) 3)] (0, 0) _ rfl (blk4 (put4 hR0 fun j => .int .u64 (wd P j))) Try.underlying24 rfl (by kernel_rfl)) rfl ⟨rfl, below_put4 hb0 (by omega) _ _ _ _⟩
/-- clapperref02.In: a number modulo M. -/
theorem gin_calls (X M : Nat) (hX : X < top) (hM1 : 1 < M) (hM : M < top) (w : World) :
    Calls Try.prog 16 #[.agg #[.int .u64 (wd (X) 0), .int .u64 (wd (X) 1), .int .u64 (wd (X) 2), .int .u64 (wd (X) 3)], .agg #[.int .u64 (wd (M) 0), .int .u64 (wd (M) 1), .int .u64 (wd (M) 2), .int .u64 (wd (M) 3)]] w fun e w' => e = .returned (.agg #[.int .u64 (wd (X % M) 0), .int .u64 (wd (X % M) 1), .int .u64 (wd (X % M) 2), .int .u64 (wd (X % M) 3)]) ∧ Below w.heap.size w w' := by
  by_cases h : X < M
  · rw [Nat.mod_eq_of_lt h]; exact gin_small X M h hM w
  · exact gin_big X M _ rfl hX (by simpa using h) hM1 hM w

/-- X to what of E stands above place n, modulo M. -/
def pw (X E M n : Nat) : Nat := X ^ (E / 2 ^ n) % M
theorem pw_lt {X E M n : Nat} (h : 0 < M) : pw X E M n < M := Nat.mod_lt _ h
theorem pw_twice (X E M n : Nat) (h : E / 2 ^ n % 2 = 0) : pw X E M (n + 1) * pw X E M (n + 1) % M = pw X E M n := by
  unfold pw
  rw [bits_step E n, h, ← Nat.mul_mod, ← Nat.pow_add, Nat.two_mul]; rfl
theorem pw_more (X E M n : Nat) (h : E / 2 ^ n % 2 = 1) : (pw X E M (n + 1) * pw X E M (n + 1) % M) * X % M = pw X E M n := by
  unfold pw
  rw [bits_step E n, h, ← Nat.mul_mod, Nat.mod_mul_mod, ← Nat.pow_add, ← Nat.pow_succ, Nat.two_mul]
theorem pw_start (X E M n : Nat) (hM : 1 < M) (h : E < 2 ^ n) : pw X E M n = 1 := by
  unfold pw; rw [Nat.div_eq_of_lt h, Nat.pow_zero, Nat.mod_eq_of_lt hM]
theorem pw_end (X E M : Nat) : pw X E M 0 = X ^ E % M := by
  unfold pw; simp

set_option maxHeartbeats 4000000 in
theorem gpow_calls (X E M : Nat) (hX : X < M) (hE : E < top) (hM1 : 1 < M) (hM : M < top) (w : World) :
    Calls Try.prog 24 #[.agg #[.int .u64 (wd (X) 0), .int .u64 (wd (X) 1), .int .u64 (wd (X) 2), .int .u64 (wd (X) 3)], .agg #[.int .u64 (wd (E) 0), .int .u64 (wd (E) 1), .int .u64 (wd (E) 2), .int .u64 (wd (E) 3)], .agg #[.int .u64 (wd (M) 0), .int .u64 (wd (M) 1), .int .u64 (wd (M) 2), .int .u64 (wd (M) 3)]] w fun e w' => e = .returned (.agg #[.int .u64 (wd (X ^ E % M) 0), .int .u64 (wd (X ^ E % M) 1), .int .u64 (wd (X ^ E % M) 2), .int .u64 (wd (X ^ E % M) 3)]) ∧ Below w.heap.size w w' := by
  have hM0 : 0 < M := by omega
  have hXt : X < top := by omega
  obtain ⟨U, hU⟩ : ∃ U, U = 1 := ⟨_, rfl⟩
  have h1 := fun W => gin_of U M 1 0 0 0 (by rw [hU]; decide) (by rw [hU]; decide) (by rw [hU]; decide) (by rw [hU]; decide) (by omega) hM W
  have H1 := veil h1
  have HS := veil (show pw X E M (64 * 4) = U by rw [hU]; exact pw_start X E M (64 * 4) hM1 hE)
  clear h1 hU
  obtain ⟨P, hP⟩ : ∃ P, P = X ^ E % M := ⟨_, rfl⟩
  rw [← hP]
  have HP := veil (show pw X E M 0 = P by rw [hP, pw_end])
  clear hP
  have hA0 : ((((w.alloc (.cells #[.int .u64 (wd (X) 0), .int .u64 (wd (X) 1), .int .u64 (wd (X) 2), .int .u64 (wd (X) 3)] 24)).alloc (.cells #[.int .u64 (wd (E) 0), .int .u64 (wd (E) 1), .int .u64 (wd (E) 2), .int .u64 (wd (E) 3)] 24)).alloc (.cells #[.int .u64 (wd (M) 0), .int .u64 (wd (M) 1), .int .u64 (wd (M) 2), .int .u64 (wd (M) 3)] 24)).alloc (.cells #[.int .u64 0, .int .u64 0, .int .u64 0, .int .u64 0] 24)).rowIs w.heap.size 24 4 (fun j => .int .u64 (wd X j)) := (((row_new (n := 4) (by simp) rfl (arr4 fun j => .int .u64 (wd X j))).alloc _).alloc _).alloc _
  have hB0 : ((((w.alloc (.cells #[.int .u64 (wd (X) 0), .int .u64 (wd (X) 1), .int .u64 (wd (X) 2), .int .u64 (wd (X) 3)] 24)).alloc (.cells #[.int .u64 (wd (E) 0), .int .u64 (wd (E) 1), .int .u64 (wd (E) 2), .int .u64 (wd (E) 3)] 24)).alloc (.cells #[.int .u64 (wd (M) 0), .int .u64 (wd (M) 1), .int .u64 (wd (M) 2), .int .u64 (wd (M) 3)] 24)).alloc (.cells #[.int .u64 0, .int .u64 0, .int .u64 0, .int .u64 0] 24)).rowIs (w.heap.size + 1) 24 4 (fun j => .int .u64 (wd E j)) := ((row_new (n := 4) (by simp) rfl (arr4 fun j => .int .u64 (wd E j))).alloc _).alloc _
  have hC0 : ((((w.alloc (.cells #[.int .u64 (wd (X) 0), .int .u64 (wd (X) 1), .int .u64 (wd (X) 2), .int .u64 (wd (X) 3)] 24)).alloc (.cells #[.int .u64 (wd (E) 0), .int .u64 (wd (E) 1), .int .u64 (wd (E) 2), .int .u64 (wd (E) 3)] 24)).alloc (.cells #[.int .u64 (wd (M) 0), .int .u64 (wd (M) 1), .int .u64 (wd (M) 2), .int .u64 (wd (M) 3)] 24)).alloc (.cells #[.int .u64 0, .int .u64 0, .int .u64 0, .int .u64 0] 24)).rowIs (w.heap.size + 1 + 1) 24 4 (fun j => .int .u64 (wd M j)) := (row_new (n := 4) (by simp) rfl (arr4 fun j => .int .u64 (wd M j))).alloc _
  have hR0 : ((((w.alloc (.cells #[.int .u64 (wd (X) 0), .int .u64 (wd (X) 1), .int .u64 (wd (X) 2), .int .u64 (wd (X) 3)] 24)).alloc (.cells #[.int .u64 (wd (E) 0), .int .u64 (wd (E) 1), .int .u64 (wd (E) 2), .int .u64 (wd (E) 3)] 24)).alloc (.cells #[.int .u64 (wd (M) 0), .int .u64 (wd (M) 1), .int .u64 (wd (M) 2), .int .u64 (wd (M) 3)] 24)).alloc (.cells #[.int .u64 0, .int .u64 0, .int .u64 0, .int .u64 0] 24)).rowIs (w.heap.size + 1 + 1 + 1) 24 4 (fun _ => .int .u64 0) := row_new (n := 4) (by simp) rfl (arr4 fun _ => .int .u64 0)
  have hb0 : Below w.heap.size w ((((w.alloc (.cells #[.int .u64 (wd (X) 0), .int .u64 (wd (X) 1), .int .u64 (wd (X) 2), .int .u64 (wd (X) 3)] 24)).alloc (.cells #[.int .u64 (wd (E) 0), .int .u64 (wd (E) 1), .int .u64 (wd (E) 2), .int .u64 (wd (E) 3)] 24)).alloc (.cells #[.int .u64 (wd (M) 0), .int .u64 (wd (M) 1), .int .u64 (wd (M) 2), .int .u64 (wd (M) 3)] 24)).alloc (.cells #[.int .u64 0, .int .u64 0, .int .u64 0, .int .u64 0] 24)) := ((((Below.refl _ _).alloc (by simp) _).alloc (by simp) _).alloc (by simp; omega) _).alloc (by simp; omega) _
  have hz0 : w.heap.size + 1 + 1 + 1 < ((((w.alloc (.cells #[.int .u64 (wd (X) 0), .int .u64 (wd (X) 1), .int .u64 (wd (X) 2), .int .u64 (wd (X) 3)] 24)).alloc (.cells #[.int .u64 (wd (E) 0), .int .u64 (wd (E) 1), .int .u64 (wd (E) 2), .int .u64 (wd (E) 3)] 24)).alloc (.cells #[.int .u64 (wd (M) 0), .int .u64 (wd (M) 1), .int .u64 (wd (M) 2), .int .u64 (wd (M) 3)] 24)).alloc (.cells #[.int .u64 0, .int .u64 0, .int .u64 0, .int .u64 0] 24)).heap.size := by simp
  obtain ⟨c0, c1, c2, c3⟩ := row_c4 hC0
  go_enter Try.func24, Try.ntmps24
  go_wp2_with fail
  refine (H1.out _).mono ?_
  rintro e w1 ⟨rfl, hb1⟩
  clear c0 c1 c2 c3
  replace hA0 := (row_below hA0 hb1 hA0.lt).alloc (.cells #[.int .u64 (wd (U) 0), .int .u64 (wd (U) 1), .int .u64 (wd (U) 2), .int .u64 (wd (U) 3)] 24)
  replace hB0 := (row_below hB0 hb1 hB0.lt).alloc (.cells #[.int .u64 (wd (U) 0), .int .u64 (wd (U) 1), .int .u64 (wd (U) 2), .int .u64 (wd (U) 3)] 24)
  replace hC0 := (row_below hC0 hb1 hC0.lt).alloc (.cells #[.int .u64 (wd (U) 0), .int .u64 (wd (U) 1), .int .u64 (wd (U) 2), .int .u64 (wd (U) 3)] 24)
  replace hR0 := (row_below hR0 hb1 hR0.lt).alloc (.cells #[.int .u64 (wd (U) 0), .int .u64 (wd (U) 1), .int .u64 (wd (U) 2), .int .u64 (wd (U) 3)] 24)
  replace hz0 : w.heap.size + 1 + 1 + 1 < w1.heap.size := Nat.lt_of_lt_of_le hz0 hb1.size
  replace hb0 := (hb0.trans (hb1.mono hb0.size)).alloc (by omega) (.cells #[.int .u64 (wd (U) 0), .int .u64 (wd (U) 1), .int .u64 (wd (U) 2), .int .u64 (wd (U) 3)] 24)
  have hO0 : (w1.alloc (.cells #[.int .u64 (wd (U) 0), .int .u64 (wd (U) 1), .int .u64 (wd (U) 2), .int .u64 (wd (U) 3)] 24)).rowIs w1.heap.size 24 4 (fun j => .int .u64 (wd U j)) := row_new (n := 4) rfl rfl (arr4 fun j => .int .u64 (wd U j))
  clear hb1
  go_wp2_with fail
  generalize w1.heap.size = g at *
  generalize w1.alloc (.cells #[.int .u64 (wd (U) 0), .int .u64 (wd (U) 1), .int .u64 (wd (U) 2), .int .u64 (wd (U) 3)] 24) = w0 at *
  go_loopw [8] (fun i wr => ∃ k : Nat, k ≤ 256 ∧ i = .int .i64 ((k : Int) - 1) ∧ wr.rowIs w.heap.size 24 4 (fun j => .int .u64 (wd X j)) ∧ wr.rowIs (w.heap.size + 1) 24 4 (fun j => .int .u64 (wd E j)) ∧ wr.rowIs (w.heap.size + 1 + 1) 24 4 (fun j => .int .u64 (wd M j)) ∧ wr.rowIs (w.heap.size + 1 + 1 + 1) 24 4 (fun _ => .int .u64 0) ∧ wr.rowIs g 24 4 (fun j => .int .u64 (wd (pw X E M k) j)) ∧ Below w.heap.size w wr)
    (fun i _ => (intOf i + 1).toNat)
  case atStart => exact ⟨256, by omega, rfl, hA0, hB0, hC0, hR0, hO0.congr (fun j hj => by rw [show (256 : Nat) = 64 * 4 from rfl, HS.out]), hb0⟩
  case round =>
    obtain ⟨k, hk, hi, hA, hB, hC, hR, hO, hbel⟩ := hrel
    clear hA0 hB0 hC0 hR0 hO0 hb0
    cases k with
    | zero =>
      subst hi
      have hO := hO.congr (g := fun j => .int .u64 (wd P j)) (fun j _ => by rw [HP.out])
      obtain ⟨o0, o1, o2, o3⟩ := row_c4 hO
      obtain ⟨d0, d1, d2, d3⟩ := row_c4 hR
      obtain ⟨f0, f1, f2, f3⟩ := row_f4 hR
      go_wp2
      refine bodyPost_ret (results_cell_row rfl _ _ (w.heap.size + 1 + 1 + 1) 24 #[.int .u64 (wd (P) 0), .int .u64 (wd (P) 1), .int .u64 (wd (P) 2), .int .u64 (wd (P) 3)] (0, 0) _ rfl (blk4 (put4 hR fun j => .int .u64 (wd P j))) Try.underlying24 rfl (by kernel_rfl)) rfl ⟨rfl, below_put4 hbel (by omega) _ _ _ _⟩
    | succ k =>
      obtain rfl : _ = Value.int .i64 (k : Int) := hi.trans (by congr 1; omega)
      clear hi
      have hk4 : k < 256 := by omega
      have e1 := pw_twice X E M k
      have e2 := pw_more X E M k
      have hVM := pw_lt (X := X) (E := E) (n := k + 1) hM0
      have hTM := pw_lt (X := X) (E := E) (n := k) hM0
      generalize pw X E M (k + 1) = V at *
      obtain ⟨T, hT⟩ : ∃ T, T = pw X E M k := ⟨_, rfl⟩
      rw [← hT] at e1 e2 hTM
      have HT := veil hT
      clear hT
      obtain ⟨D, hD⟩ : ∃ D, D = V * V % M := ⟨_, rfl⟩
      rw [← hD] at e1 e2
      have hDM : D < M := by rw [hD]; exact Nat.mod_lt _ hM0
      have h2 := fun W => gmul_calls V V M hVM (by omega) hM W
      rw [← hD] at h2
      have H2 := veil h2
      have h3 := fun W => rbit_in E k hk4 W
      clear h2 hD
      obtain ⟨o0, o1, o2, o3⟩ := row_c4 hO
      obtain ⟨c0, c1, c2, c3⟩ := row_c4 hC
      by_cases hbit : E / 2 ^ k % 2 = 1
      · have h4 := fun W => gmul_calls D X M hDM hXt hM W
        rw [e2 hbit] at h4
        rw [show bit E k = true by unfold bit; rw [hbit]; rfl] at h3
        have H4 := veil h4
        have H3 := veil h3
        clear h3 h4 e1 e2 hbit
        go_wp2_with fail
        refine (H2.out _).mono ?_
        rintro e w2 ⟨rfl, hb2⟩
        clear o0 o1 o2 o3 c0 c1 c2 c3
        replace hA := row_below hA hb2 hA.lt
        replace hB := row_below hB hb2 hB.lt
        replace hC := row_below hC hb2 hC.lt
        replace hR := row_below hR hb2 hR.lt
        replace hO := row_below hO hb2 hO.lt
        replace hbel := hbel.trans (hb2.mono hbel.size)
        clear hb2
        obtain ⟨o0, o1, o2, o3⟩ := row_c4 hO
        obtain ⟨f0, f1, f2, f3⟩ := row_f4 hO
        go_upto_region 6 with (fail)
        replace hA := row_far4 hA (b' := g) (by omega) (.int .u64 (wd D 0)) (.int .u64 (wd D 1)) (.int .u64 (wd D 2)) (.int .u64 (wd D 3))
        replace hB := row_far4 hB (b' := g) (by omega) (.int .u64 (wd D 0)) (.int .u64 (wd D 1)) (.int .u64 (wd D 2)) (.int .u64 (wd D 3))
        replace hC := row_far4 hC (b' := g) (by omega) (.int .u64 (wd D 0)) (.int .u64 (wd D 1)) (.int .u64 (wd D 2)) (.int .u64 (wd D 3))
        replace hR := row_far4 hR (b' := g) (by omega) (.int .u64 (wd D 0)) (.int .u64 (wd D 1)) (.int .u64 (wd D 2)) (.int .u64 (wd D 3))
        replace hbel := below_put4 (b := g) hbel (by omega) (.int .u64 (wd D 0)) (.int .u64 (wd D 1)) (.int .u64 (wd D 2)) (.int .u64 (wd D 3))
        replace hO := put4 hO (fun j => .int .u64 (wd D j))
        clear o0 o1 o2 o3 f0 f1 f2 f3
        generalize (((w2.setCell ⟨g, 0, none⟩ (.int .u64 (wd D 0))).setCell ⟨g, 1, none⟩ (.int .u64 (wd D 1))).setCell ⟨g, 2, none⟩ (.int .u64 (wd D 2))).setCell ⟨g, 3, none⟩ (.int .u64 (wd D 3)) = v2 at *
        obtain ⟨b0, b1, b2, b3⟩ := row_c4 hB
        go_wp2_with fail
        refine (H3.out _).mono ?_
        rintro e w3 ⟨rfl, hb3⟩
        clear b0 b1 b2 b3
        replace hA := row_below hA hb3 hA.lt
        replace hB := row_below hB hb3 hB.lt
        replace hC := row_below hC hb3 hC.lt
        replace hR := row_below hR hb3 hR.lt
        replace hO := row_below hO hb3 hO.lt
        replace hbel := hbel.trans (hb3.mono hbel.size)
        clear hb3
        obtain ⟨o0, o1, o2, o3⟩ := row_c4 hO
        obtain ⟨c0, c1, c2, c3⟩ := row_c4 hC
        obtain ⟨a0, a1, a2, a3⟩ := row_c4 hA
        go_wp2_with fail
        refine (H4.out _).mono ?_
        rintro e w4 ⟨rfl, hb4⟩
        clear o0 o1 o2 o3 c0 c1 c2 c3 a0 a1 a2 a3
        replace hA := row_below hA hb4 hA.lt
        replace hB := row_below hB hb4 hB.lt
        replace hC := row_below hC hb4 hC.lt
        replace hR := row_below hR hb4 hR.lt
        replace hO := row_below hO hb4 hO.lt
        replace hbel := hbel.trans (hb4.mono hbel.size)
        clear hb4
        obtain ⟨o0, o1, o2, o3⟩ := row_c4 hO
        obtain ⟨f0, f1, f2, f3⟩ := row_f4 hO
        go_upto_region 4 with (fail)
        replace hA := row_far4 hA (b' := g) (by omega) (.int .u64 (wd T 0)) (.int .u64 (wd T 1)) (.int .u64 (wd T 2)) (.int .u64 (wd T 3))
        replace hB := row_far4 hB (b' := g) (by omega) (.int .u64 (wd T 0)) (.int .u64 (wd T 1)) (.int .u64 (wd T 2)) (.int .u64 (wd T 3))
        replace hC := row_far4 hC (b' := g) (by omega) (.int .u64 (wd T 0)) (.int .u64 (wd T 1)) (.int .u64 (wd T 2)) (.int .u64 (wd T 3))
        replace hR := row_far4 hR (b' := g) (by omega) (.int .u64 (wd T 0)) (.int .u64 (wd T 1)) (.int .u64 (wd T 2)) (.int .u64 (wd T 3))
        replace hbel := below_put4 (b := g) hbel (by omega) (.int .u64 (wd T 0)) (.int .u64 (wd T 1)) (.int .u64 (wd T 2)) (.int .u64 (wd T 3))
        replace hO := put4 hO (fun j => .int .u64 (wd T j))
        clear o0 o1 o2 o3 f0 f1 f2 f3
        generalize (((w4.setCell ⟨g, 0, none⟩ (.int .u64 (wd T 0))).setCell ⟨g, 1, none⟩ (.int .u64 (wd T 1))).setCell ⟨g, 2, none⟩ (.int .u64 (wd T 2))).setCell ⟨g, 3, none⟩ (.int .u64 (wd T 3)) = v4 at *
        go_wp2
        go_roundw
        case rel => exact ⟨k, by omega, by go_num, hA, hB, hC, hR, by rw [← HT.out]; exact hO, hbel⟩
        case measure => simp [intOf]
      · rw [e1 (by omega)] at H2
        rw [show bit E k = false by unfold bit; rw [show E / 2 ^ k % 2 = 0 by omega]; rfl] at h3
        have H3 := veil h3
        clear h3 e1 e2 hbit
        go_wp2_with fail
        refine (H2.out _).mono ?_
        rintro e w2 ⟨rfl, hb2⟩
        clear o0 o1 o2 o3 c0 c1 c2 c3
        replace hA := row_below hA hb2 hA.lt
        replace hB := row_below hB hb2 hB.lt
        replace hC := row_below hC hb2 hC.lt
        replace hR := row_below hR hb2 hR.lt
        replace hO := row_below hO hb2 hO.lt
        replace hbel := hbel.trans (hb2.mono hbel.size)
        clear hb2
        obtain ⟨o0, o1, o2, o3⟩ := row_c4 hO
        obtain ⟨f0, f1, f2, f3⟩ := row_f4 hO
        go_upto_region 6 with (fail)
        replace hA := row_far4 hA (b' := g) (by omega) (.int .u64 (wd T 0)) (.int .u64 (wd T 1)) (.int .u64 (wd T 2)) (.int .u64 (wd T 3))
        replace hB := row_far4 hB (b' := g) (by omega) (.int .u64 (wd T 0)) (.int .u64 (wd T 1)) (.int .u64 (wd T 2)) (.int .u64 (wd T 3))
        replace hC := row_far4 hC (b' := g) (by omega) (.int .u64 (wd T 0)) (.int .u64 (wd T 1)) (.int .u64 (wd T 2)) (.int .u64 (wd T 3))
        replace hR := row_far4 hR (b' := g) (by omega) (.int .u64 (wd T 0)) (.int .u64 (wd T 1)) (.int .u64 (wd T 2)) (.int .u64 (wd T 3))
        replace hbel := below_put4 (b := g) hbel (by omega) (.int .u64 (wd T 0)) (.int .u64 (wd T 1)) (.int .u64 (wd T 2)) (.int .u64 (wd T 3))
        replace hO := put4 hO (fun j => .int .u64 (wd T j))
        clear o0 o1 o2 o3 f0 f1 f2 f3
        generalize (((w2.setCell ⟨g, 0, none⟩ (.int .u64 (wd T 0))).setCell ⟨g, 1, none⟩ (.int .u64 (wd T 1))).setCell ⟨g, 2, none⟩ (.int .u64 (wd T 2))).setCell ⟨g, 3, none⟩ (.int .u64 (wd T 3)) = v2 at *
        obtain ⟨b0, b1, b2, b3⟩ := row_c4 hB
        go_wp2_with fail
        refine (H3.out _).mono ?_
        rintro e w3 ⟨rfl, hb3⟩
        clear b0 b1 b2 b3
        replace hA := row_below hA hb3 hA.lt
        replace hB := row_below hB hb3 hB.lt
        replace hC := row_below hC hb3 hC.lt
        replace hR := row_below hR hb3 hR.lt
        replace hO := row_below hO hb3 hO.lt
        replace hbel := hbel.trans (hb3.mono hbel.size)
        clear hb3
        go_wp2
        go_roundw
        case rel => exact ⟨k, by omega, by go_num, hA, hB, hC, hR, by rw [← HT.out]; exact hO, hbel⟩
        case measure => simp [intOf]
end Go.Proofs.Ytkfomfpeangcdaa
