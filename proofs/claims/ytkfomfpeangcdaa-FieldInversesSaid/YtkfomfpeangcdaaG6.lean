/-
  clapperref02.In, Cut: a number, and a wide one, modulo another one.
-/
import Derived.Test.YtkfomfpeangcdaaG5
namespace Go.Proofs.Ytkfomfpeangcdaa
open Go.RowKit

set_option maxHeartbeats 2000000 in
theorem gin_small (X M : Nat) (hX : X < M) (hM : M < top) (w : World) :
    Calls Try.prog 16 #[.agg #[.int .u64 (wd (X) 0), .int .u64 (wd (X) 1), .int .u64 (wd (X) 2), .int .u64 (wd (X) 3)], .agg #[.int .u64 (wd (M) 0), .int .u64 (wd (M) 1), .int .u64 (wd (M) 2), .int .u64 (wd (M) 3)]] w fun e w' => e = .returned (.agg #[.int .u64 (wd (X) 0), .int .u64 (wd (X) 1), .int .u64 (wd (X) 2), .int .u64 (wd (X) 3)]) ∧ Below w.heap.size w w' := by
  have HL := veil (show decide (X < M) = true by simpa using hX)
  have hXt : X < top := by omega
  have hX0 : (((w.alloc (.cells #[.int .u64 (wd (X) 0), .int .u64 (wd (X) 1), .int .u64 (wd (X) 2), .int .u64 (wd (X) 3)] 24)).alloc (.cells #[.int .u64 (wd (M) 0), .int .u64 (wd (M) 1), .int .u64 (wd (M) 2), .int .u64 (wd (M) 3)] 24)).alloc (.cells #[.int .u64 0, .int .u64 0, .int .u64 0, .int .u64 0] 24)).rowIs w.heap.size 24 4 (fun j => .int .u64 (wd X j)) := ((row_new (n := 4) (by simp) rfl (arr4 fun j => .int .u64 (wd X j))).alloc _).alloc _
  have hM0 : (((w.alloc (.cells #[.int .u64 (wd (X) 0), .int .u64 (wd (X) 1), .int .u64 (wd (X) 2), .int .u64 (wd (X) 3)] 24)).alloc (.cells #[.int .u64 (wd (M) 0), .int .u64 (wd (M) 1), .int .u64 (wd (M) 2), .int .u64 (wd (M) 3)] 24)).alloc (.cells #[.int .u64 0, .int .u64 0, .int .u64 0, .int .u64 0] 24)).rowIs (w.heap.size + 1) 24 4 (fun j => .int .u64 (wd M j)) := (row_new (n := 4) (by simp) rfl (arr4 fun j => .int .u64 (wd M j))).alloc _
  have hR0 : (((w.alloc (.cells #[.int .u64 (wd (X) 0), .int .u64 (wd (X) 1), .int .u64 (wd (X) 2), .int .u64 (wd (X) 3)] 24)).alloc (.cells #[.int .u64 (wd (M) 0), .int .u64 (wd (M) 1), .int .u64 (wd (M) 2), .int .u64 (wd (M) 3)] 24)).alloc (.cells #[.int .u64 0, .int .u64 0, .int .u64 0, .int .u64 0] 24)).rowIs (w.heap.size + 1 + 1) 24 4 (fun _ => .int .u64 0) := row_new (n := 4) (by simp) rfl (arr4 fun _ => .int .u64 0)
  have hb0 : Below w.heap.size w (((w.alloc (.cells #[.int .u64 (wd (X) 0), .int .u64 (wd (X) 1), .int .u64 (wd (X) 2), .int .u64 (wd (X) 3)] 24)).alloc (.cells #[.int .u64 (wd (M) 0), .int .u64 (wd (M) 1), .int .u64 (wd (M) 2), .int .u64 (wd (M) 3)] 24)).alloc (.cells #[.int .u64 0, .int .u64 0, .int .u64 0, .int .u64 0] 24)) := (((Below.refl _ _).alloc (by simp) _).alloc (by simp) _).alloc (by simp; omega) _
  go_enter Try.func16, Try.ntmps16
  obtain ⟨a0, a1, a2, a3⟩ := row_c4 hX0
  obtain ⟨c0, c1, c2, c3⟩ := row_c4 hM0
  go_wp2_with fail
  refine (less_is X M true HL.out hXt hM _).mono ?_
  rintro e w1 ⟨rfl, hb1⟩
  clear a0 a1 a2 a3 c0 c1 c2 c3
  replace hX0 := row_below hX0 hb1 hX0.lt
  replace hR0 := row_below hR0 hb1 hR0.lt
  replace hb0 := hb0.trans (hb1.mono hb0.size)
  clear hb1 hM0
  obtain ⟨a0, a1, a2, a3⟩ := row_c4 hX0
  obtain ⟨d0, d1, d2, d3⟩ := row_c4 hR0
  obtain ⟨f0, f1, f2, f3⟩ := row_f4 hR0
  go_wp2
  refine bodyPost_ret (results_cell_row rfl _ _ (w.heap.size + 1 + 1) 24 #[.int .u64 (wd (X) 0), .int .u64 (wd (X) 1), .int .u64 (wd (X) 2), .int .u64 (wd (X) 3)] (0, 0) _ rfl (blk4 (put4 hR0 fun j => .int .u64 (wd X j))) Try.underlying24 rfl (by kernel_rfl)) rfl ⟨rfl, below_put4 hb0 (by omega) _ _ _ _⟩

/-- 2^512. -/
def top2 : Nat := w64 ^ 8
theorem acc_startw (X Y M n : Nat) (h : Y < w64 ^ n) : acc X Y M (64 * n) = 0 := by
  have e : (2 : Nat) ^ 64 = w64 := rfl
  unfold acc; rw [Nat.pow_mul, e, Nat.div_eq_of_lt h]; simp

theorem gin_of (X M : Nat) (a b c d : Int) (ha : wd X 0 = a) (hb : wd X 1 = b) (hc : wd X 2 = c) (hd : wd X 3 = d) (hX : X < M) (hM : M < top) (w : World) :
    Calls Try.prog 16 #[.agg #[.int .u64 a, .int .u64 b, .int .u64 c, .int .u64 d], .agg #[.int .u64 (wd (M) 0), .int .u64 (wd (M) 1), .int .u64 (wd (M) 2), .int .u64 (wd (M) 3)]] w fun e w' => e = .returned (.agg #[.int .u64 (wd (X) 0), .int .u64 (wd (X) 1), .int .u64 (wd (X) 2), .int .u64 (wd (X) 3)]) ∧ Below w.heap.size w w' := by
  subst ha hb hc hd; exact gin_small X M hX hM w

set_option maxHeartbeats 4000000 in
theorem gcut_calls (Z M : Nat) (hZ : Z < top2) (hM1 : 1 < M) (hM : M < top) (w : World) :
    Calls Try.prog 15 #[.agg #[.int .u64 (wd (Z) 0), .int .u64 (wd (Z) 1), .int .u64 (wd (Z) 2), .int .u64 (wd (Z) 3), .int .u64 (wd (Z) 4), .int .u64 (wd (Z) 5), .int .u64 (wd (Z) 6), .int .u64 (wd (Z) 7)], .agg #[.int .u64 (wd (M) 0), .int .u64 (wd (M) 1), .int .u64 (wd (M) 2), .int .u64 (wd (M) 3)]] w fun e w' => e = .returned (.agg #[.int .u64 (wd (Z % M) 0), .int .u64 (wd (Z % M) 1), .int .u64 (wd (Z % M) 2), .int .u64 (wd (Z % M) 3)]) ∧ Below w.heap.size w w' := by
  have hM0 : 0 < M := by omega
  obtain ⟨U, hU⟩ : ∃ U, U = 1 := ⟨_, rfl⟩
  have HZ := veil (acc_startw U Z M 8 hZ)
  clear hZ
  have hUM : U < M := by omega
  have h1 := fun W => gin_of U M 1 0 0 0 (by rw [hU]; decide) (by rw [hU]; decide) (by rw [hU]; decide) (by rw [hU]; decide) hUM hM W
  have H1 := veil h1
  clear h1
  obtain ⟨P, hP⟩ : ∃ P, P = Z % M := ⟨_, rfl⟩
  rw [← hP]
  have HP := veil (show P = U * Z % M by rw [hU, Nat.one_mul, hP])
  clear hP hU
  have hB0 : ((((w.alloc (.cells #[.int .u64 (wd (Z) 0), .int .u64 (wd (Z) 1), .int .u64 (wd (Z) 2), .int .u64 (wd (Z) 3), .int .u64 (wd (Z) 4), .int .u64 (wd (Z) 5), .int .u64 (wd (Z) 6), .int .u64 (wd (Z) 7)] 26)).alloc (.cells #[.int .u64 (wd (M) 0), .int .u64 (wd (M) 1), .int .u64 (wd (M) 2), .int .u64 (wd (M) 3)] 24)).alloc (.cells #[.int .u64 0, .int .u64 0, .int .u64 0, .int .u64 0] 24)).alloc (.cells #[.int .u64 0, .int .u64 0, .int .u64 0, .int .u64 0] 24)).rowIs w.heap.size 26 8 (fun j => .int .u64 (wd Z j)) := (((row_new (n := 8) (by simp) rfl (arr8 fun j => .int .u64 (wd Z j))).alloc _).alloc _).alloc _
  have hC0 : ((((w.alloc (.cells #[.int .u64 (wd (Z) 0), .int .u64 (wd (Z) 1), .int .u64 (wd (Z) 2), .int .u64 (wd (Z) 3), .int .u64 (wd (Z) 4), .int .u64 (wd (Z) 5), .int .u64 (wd (Z) 6), .int .u64 (wd (Z) 7)] 26)).alloc (.cells #[.int .u64 (wd (M) 0), .int .u64 (wd (M) 1), .int .u64 (wd (M) 2), .int .u64 (wd (M) 3)] 24)).alloc (.cells #[.int .u64 0, .int .u64 0, .int .u64 0, .int .u64 0] 24)).alloc (.cells #[.int .u64 0, .int .u64 0, .int .u64 0, .int .u64 0] 24)).rowIs (w.heap.size + 1) 24 4 (fun j => .int .u64 (wd M j)) := ((row_new (n := 4) (by simp) rfl (arr4 fun j => .int .u64 (wd M j))).alloc _).alloc _
  have hR0 : ((((w.alloc (.cells #[.int .u64 (wd (Z) 0), .int .u64 (wd (Z) 1), .int .u64 (wd (Z) 2), .int .u64 (wd (Z) 3), .int .u64 (wd (Z) 4), .int .u64 (wd (Z) 5), .int .u64 (wd (Z) 6), .int .u64 (wd (Z) 7)] 26)).alloc (.cells #[.int .u64 (wd (M) 0), .int .u64 (wd (M) 1), .int .u64 (wd (M) 2), .int .u64 (wd (M) 3)] 24)).alloc (.cells #[.int .u64 0, .int .u64 0, .int .u64 0, .int .u64 0] 24)).alloc (.cells #[.int .u64 0, .int .u64 0, .int .u64 0, .int .u64 0] 24)).rowIs (w.heap.size + 1 + 1) 24 4 (fun _ => .int .u64 0) := (row_new (n := 4) (by simp) rfl (arr4 fun _ => .int .u64 0)).alloc _
  have hO0 : ((((w.alloc (.cells #[.int .u64 (wd (Z) 0), .int .u64 (wd (Z) 1), .int .u64 (wd (Z) 2), .int .u64 (wd (Z) 3), .int .u64 (wd (Z) 4), .int .u64 (wd (Z) 5), .int .u64 (wd (Z) 6), .int .u64 (wd (Z) 7)] 26)).alloc (.cells #[.int .u64 (wd (M) 0), .int .u64 (wd (M) 1), .int .u64 (wd (M) 2), .int .u64 (wd (M) 3)] 24)).alloc (.cells #[.int .u64 0, .int .u64 0, .int .u64 0, .int .u64 0] 24)).alloc (.cells #[.int .u64 0, .int .u64 0, .int .u64 0, .int .u64 0] 24)).rowIs (w.heap.size + 1 + 1 + 1) 24 4 (fun _ => .int .u64 0) := row_new (n := 4) (by simp) rfl (arr4 fun _ => .int .u64 0)
  have hb0 : Below w.heap.size w ((((w.alloc (.cells #[.int .u64 (wd (Z) 0), .int .u64 (wd (Z) 1), .int .u64 (wd (Z) 2), .int .u64 (wd (Z) 3), .int .u64 (wd (Z) 4), .int .u64 (wd (Z) 5), .int .u64 (wd (Z) 6), .int .u64 (wd (Z) 7)] 26)).alloc (.cells #[.int .u64 (wd (M) 0), .int .u64 (wd (M) 1), .int .u64 (wd (M) 2), .int .u64 (wd (M) 3)] 24)).alloc (.cells #[.int .u64 0, .int .u64 0, .int .u64 0, .int .u64 0] 24)).alloc (.cells #[.int .u64 0, .int .u64 0, .int .u64 0, .int .u64 0] 24)) := ((((Below.refl _ _).alloc (by simp) _).alloc (by simp) _).alloc (by simp; omega) _).alloc (by simp; omega) _
  have hz0 : w.heap.size + 1 + 1 + 1 < ((((w.alloc (.cells #[.int .u64 (wd (Z) 0), .int .u64 (wd (Z) 1), .int .u64 (wd (Z) 2), .int .u64 (wd (Z) 3), .int .u64 (wd (Z) 4), .int .u64 (wd (Z) 5), .int .u64 (wd (Z) 6), .int .u64 (wd (Z) 7)] 26)).alloc (.cells #[.int .u64 (wd (M) 0), .int .u64 (wd (M) 1), .int .u64 (wd (M) 2), .int .u64 (wd (M) 3)] 24)).alloc (.cells #[.int .u64 0, .int .u64 0, .int .u64 0, .int .u64 0] 24)).alloc (.cells #[.int .u64 0, .int .u64 0, .int .u64 0, .int .u64 0] 24)).heap.size := by simp
  obtain ⟨c0, c1, c2, c3⟩ := row_c4 hC0
  go_enter Try.func15, Try.ntmps15
  go_wp2_with fail
  refine (H1.out _).mono ?_
  rintro e w1 ⟨rfl, hb1⟩
  clear c0 c1 c2 c3
  replace hB0 := (row_below hB0 hb1 hB0.lt).alloc (.cells #[.int .u64 (wd (U) 0), .int .u64 (wd (U) 1), .int .u64 (wd (U) 2), .int .u64 (wd (U) 3)] 24)
  replace hC0 := (row_below hC0 hb1 hC0.lt).alloc (.cells #[.int .u64 (wd (U) 0), .int .u64 (wd (U) 1), .int .u64 (wd (U) 2), .int .u64 (wd (U) 3)] 24)
  replace hR0 := (row_below hR0 hb1 hR0.lt).alloc (.cells #[.int .u64 (wd (U) 0), .int .u64 (wd (U) 1), .int .u64 (wd (U) 2), .int .u64 (wd (U) 3)] 24)
  replace hO0 := (row_below hO0 hb1 hO0.lt).alloc (.cells #[.int .u64 (wd (U) 0), .int .u64 (wd (U) 1), .int .u64 (wd (U) 2), .int .u64 (wd (U) 3)] 24)
  replace hz0 : w.heap.size + 1 + 1 + 1 < w1.heap.size := Nat.lt_of_lt_of_le hz0 hb1.size
  replace hb0 := (hb0.trans (hb1.mono hb0.size)).alloc (by omega) (.cells #[.int .u64 (wd (U) 0), .int .u64 (wd (U) 1), .int .u64 (wd (U) 2), .int .u64 (wd (U) 3)] 24)
  have hA0 : (w1.alloc (.cells #[.int .u64 (wd (U) 0), .int .u64 (wd (U) 1), .int .u64 (wd (U) 2), .int .u64 (wd (U) 3)] 24)).rowIs w1.heap.size 24 4 (fun j => .int .u64 (wd U j)) := row_new (n := 4) rfl rfl (arr4 fun j => .int .u64 (wd U j))
  clear hb1
  go_wp2_with fail
  generalize w1.heap.size = g at *
  generalize w1.alloc (.cells #[.int .u64 (wd (U) 0), .int .u64 (wd (U) 1), .int .u64 (wd (U) 2), .int .u64 (wd (U) 3)] 24) = w0 at *
  go_loopw [7] (fun i wr => ∃ k : Nat, k ≤ 8 ∧ i = .int .i64 ((k : Int) - 1) ∧ wr.rowIs g 24 4 (fun j => .int .u64 (wd U j)) ∧ wr.rowIs w.heap.size 26 8 (fun j => .int .u64 (wd Z j)) ∧ wr.rowIs (w.heap.size + 1) 24 4 (fun j => .int .u64 (wd M j)) ∧ wr.rowIs (w.heap.size + 1 + 1) 24 4 (fun _ => .int .u64 0) ∧ wr.rowIs (w.heap.size + 1 + 1 + 1) 24 4 (fun j => .int .u64 (wd (acc U Z M (64 * k)) j)) ∧ Below w.heap.size w wr)
    (fun i _ => (intOf i + 1).toNat)
  case atStart => exact ⟨8, by omega, rfl, hA0, hB0, hC0, hR0, hO0.congr (fun j hj => by rw [HZ.out]; unfold wd dg; simp), hb0⟩
  case round =>
    obtain ⟨k, hk, hi, hA, hB, hC, hR, hO, hbel⟩ := hrel
    clear hA0 hB0 hC0 hR0 hO0 hb0
    cases k with
    | zero =>
      subst hi
      have hO := hO.congr (g := fun j => .int .u64 (wd P j)) (fun j _ => by rw [Nat.mul_zero, acc_end, ← HP.out])
      obtain ⟨o0, o1, o2, o3⟩ := row_c4 hO
      obtain ⟨d0, d1, d2, d3⟩ := row_c4 hR
      obtain ⟨f0, f1, f2, f3⟩ := row_f4 hR
      go_wp2
      refine bodyPost_ret (results_cell_row rfl _ _ (w.heap.size + 1 + 1) 24 #[.int .u64 (wd (P) 0), .int .u64 (wd (P) 1), .int .u64 (wd (P) 2), .int .u64 (wd (P) 3)] (0, 0) _ rfl (blk4 (put4 hR fun j => .int .u64 (wd P j))) Try.underlying24 rfl (by kernel_rfl)) rfl ⟨rfl, below_put4 hbel (by omega) _ _ _ _⟩
    | succ k =>
      obtain rfl : _ = Value.int .i64 (k : Int) := hi.trans (by congr 1; omega)
      clear hi
      have hk4 : k < 8 := by omega
      have c1 := hB.cell hk4
      go_wp2
      clear c1
      obtain ⟨wo, hwo⟩ : ∃ wo : World, wo = wr := ⟨_, rfl⟩
      rw [← hwo] at hA hB hC hR hO hbel ⊢
      clear hwo
      go_loopw [8, 9] (fun q kk wq => ∃ m : Nat, m ≤ 64 ∧ kk = .int .i64 m ∧ q = .int .u64 (mw Z k m : Nat) ∧ wq.rowIs g 24 4 (fun j => .int .u64 (wd U j)) ∧ wq.rowIs w.heap.size 26 8 (fun j => .int .u64 (wd Z j)) ∧ wq.rowIs (w.heap.size + 1) 24 4 (fun j => .int .u64 (wd M j)) ∧ wq.rowIs (w.heap.size + 1 + 1) 24 4 (fun _ => .int .u64 0) ∧ wq.rowIs (w.heap.size + 1 + 1 + 1) 24 4 (fun j => .int .u64 (wd (acc U Z M (64 * (k + 1) - m)) j)) ∧ Below w.heap.size w wq)
        (fun _ kk _ => 64 - (intOf kk).toNat)
      case atStart => exact ⟨0, by omega, rfl, by rw [mw_zero]; rfl, hA, hB, hC, hR, hO, hbel⟩
      case round =>
        obtain ⟨m, hm, rfl, rfl, hA, hB, hC, hR, hO, hbel⟩ := hrel
        by_cases hlt : m < 64
        · have hq := mw_lt Z k m
          have hs : IntKind.u64.wrap ((mw Z k m : Nat) + (mw Z k m : Nat)) = ((mw Z k (m + 1) : Nat) : Int) := by
            rw [IntKind.wrap_u64, ← mw_succ]; generalize mw Z k m = z; omega
          have ht := mw_top Z k m hlt
          obtain ⟨z, hz⟩ : ∃ z : Int, z = ((mw Z k m : Nat) : Int) := ⟨_, rfl⟩
          rw [← hz] at hs ⊢
          have hz0 : 0 ≤ z := by omega
          have hz1 : z < 18446744073709551616 := by omega
          obtain ⟨n, hn⟩ : ∃ n, n = 64 * k + (63 - m) := ⟨_, rfl⟩
          rw [← hn] at ht
          rw [show 64 * (k + 1) - m = n + 1 by omega] at hO
          have hVM := acc_lt (X := U) (Y := Z) (n := n + 1) hM0
          have e1 := acc_twice U Z M n
          have e2 := acc_more U Z M n
          generalize acc U Z M (n + 1) = V at *
          obtain ⟨D, hD⟩ : ∃ D, D = (V + V) % M := ⟨_, rfl⟩
          rw [← hD] at e1 e2
          have hDM : D < M := by rw [hD]; exact Nat.mod_lt _ hM0
          have h1 := fun W => gadd_calls V V M hVM hVM hM W
          rw [← hD] at h1
          have H1 := veil h1
          clear h1
          obtain ⟨o0, o1, o2, o3⟩ := row_c4 hO
          obtain ⟨c0, c1, c2, c3⟩ := row_c4 hC
          by_cases hbit : 9223372036854775808 ≤ mw Z k m
          · have h2 := fun W => gadd_calls D U M hDM hUM hM W
            rw [e2 (ht.1 hbit)] at h2
            have H2 := veil h2
            have hbI : 9223372036854775808 ≤ z := by omega
            clear h2 e1 e2 hD ht hq hbit hz
            have hN := veil hn
            clear hn
            obtain ⟨T, hT⟩ : ∃ T, T = acc U Z M n := ⟨_, rfl⟩
            rw [← hT] at H2
            have HT := veil hT
            clear hT
            go_wp2_with fail
            refine (H1.out _).mono ?_
            rintro e w1 ⟨rfl, hb1⟩
            clear o0 o1 o2 o3 c0 c1 c2 c3
            replace hA := row_below hA hb1 hA.lt
            replace hB := row_below hB hb1 hB.lt
            replace hC := row_below hC hb1 hC.lt
            replace hR := row_below hR hb1 hR.lt
            replace hO := row_below hO hb1 hO.lt
            replace hbel := hbel.trans (hb1.mono hbel.size)
            clear hb1
            obtain ⟨o0, o1, o2, o3⟩ := row_c4 hO
            obtain ⟨f0, f1, f2, f3⟩ := row_f4 hO
            go_upto_region 11 with (fail)
            replace hA := row_far4 hA (b' := w.heap.size + 1 + 1 + 1) (by omega) (.int .u64 (wd D 0)) (.int .u64 (wd D 1)) (.int .u64 (wd D 2)) (.int .u64 (wd D 3))
            replace hB := row_far4 hB (b' := w.heap.size + 1 + 1 + 1) (by omega) (.int .u64 (wd D 0)) (.int .u64 (wd D 1)) (.int .u64 (wd D 2)) (.int .u64 (wd D 3))
            replace hC := row_far4 hC (b' := w.heap.size + 1 + 1 + 1) (by omega) (.int .u64 (wd D 0)) (.int .u64 (wd D 1)) (.int .u64 (wd D 2)) (.int .u64 (wd D 3))
            replace hR := row_far4 hR (b' := w.heap.size + 1 + 1 + 1) (by omega) (.int .u64 (wd D 0)) (.int .u64 (wd D 1)) (.int .u64 (wd D 2)) (.int .u64 (wd D 3))
            replace hbel := below_put4 (b := w.heap.size + 1 + 1 + 1) hbel (by omega) (.int .u64 (wd D 0)) (.int .u64 (wd D 1)) (.int .u64 (wd D 2)) (.int .u64 (wd D 3))
            replace hO := put4 hO (fun j => .int .u64 (wd D j))
            clear o0 o1 o2 o3 f0 f1 f2 f3
            generalize (((w1.setCell ⟨w.heap.size + 1 + 1 + 1, 0, none⟩ (.int .u64 (wd D 0))).setCell ⟨w.heap.size + 1 + 1 + 1, 1, none⟩ (.int .u64 (wd D 1))).setCell ⟨w.heap.size + 1 + 1 + 1, 2, none⟩ (.int .u64 (wd D 2))).setCell ⟨w.heap.size + 1 + 1 + 1, 3, none⟩ (.int .u64 (wd D 3)) = v1 at *
            obtain ⟨o0, o1, o2, o3⟩ := row_c4 hO
            obtain ⟨c0, c1, c2, c3⟩ := row_c4 hC
            obtain ⟨a0, a1, a2, a3⟩ := row_c4 hA
            go_wp2_with fail
            refine (H2.out _).mono ?_
            rintro e w2 ⟨rfl, hb2⟩
            clear o0 o1 o2 o3 c0 c1 c2 c3 a0 a1 a2 a3
            replace hA := row_below hA hb2 hA.lt
            replace hB := row_below hB hb2 hB.lt
            replace hC := row_below hC hb2 hC.lt
            replace hR := row_below hR hb2 hR.lt
            replace hO := row_below hO hb2 hO.lt
            replace hbel := hbel.trans (hb2.mono hbel.size)
            clear hb2
            obtain ⟨o0, o1, o2, o3⟩ := row_c4 hO
            obtain ⟨f0, f1, f2, f3⟩ := row_f4 hO
            go_upto_region 13 with (fail)
            replace hA := row_far4 hA (b' := w.heap.size + 1 + 1 + 1) (by omega) (.int .u64 (wd T 0)) (.int .u64 (wd T 1)) (.int .u64 (wd T 2)) (.int .u64 (wd T 3))
            replace hB := row_far4 hB (b' := w.heap.size + 1 + 1 + 1) (by omega) (.int .u64 (wd T 0)) (.int .u64 (wd T 1)) (.int .u64 (wd T 2)) (.int .u64 (wd T 3))
            replace hC := row_far4 hC (b' := w.heap.size + 1 + 1 + 1) (by omega) (.int .u64 (wd T 0)) (.int .u64 (wd T 1)) (.int .u64 (wd T 2)) (.int .u64 (wd T 3))
            replace hR := row_far4 hR (b' := w.heap.size + 1 + 1 + 1) (by omega) (.int .u64 (wd T 0)) (.int .u64 (wd T 1)) (.int .u64 (wd T 2)) (.int .u64 (wd T 3))
            replace hbel := below_put4 (b := w.heap.size + 1 + 1 + 1) hbel (by omega) (.int .u64 (wd T 0)) (.int .u64 (wd T 1)) (.int .u64 (wd T 2)) (.int .u64 (wd T 3))
            replace hO := put4 hO (fun j => .int .u64 (wd T j))
            clear o0 o1 o2 o3 f0 f1 f2 f3
            generalize (((w2.setCell ⟨w.heap.size + 1 + 1 + 1, 0, none⟩ (.int .u64 (wd T 0))).setCell ⟨w.heap.size + 1 + 1 + 1, 1, none⟩ (.int .u64 (wd T 1))).setCell ⟨w.heap.size + 1 + 1 + 1, 2, none⟩ (.int .u64 (wd T 2))).setCell ⟨w.heap.size + 1 + 1 + 1, 3, none⟩ (.int .u64 (wd T 3)) = v2 at *
            obtain ⟨o0, o1, o2, o3⟩ := row_c4 hO
            obtain ⟨c0, c1, c2, c3⟩ := row_c4 hC
            go_wp2
            go_roundw
            case rel => exact ⟨m + 1, by omega, by go_num, rfl, hA, hB, hC, hR, by rw [show 64 * (k + 1) - (m + 1) = n by have := hN.out; omega, ← HT.out]; exact hO, hbel⟩
            case measure => simp [intOf]; omega
          · have e1 := e1 (by have := ht.2; omega)
            have hbI : z < 9223372036854775808 := by omega
            have hN := veil hn
            have E1 := veil e1
            clear e1 e2 hD ht hq hbit hz hn
            go_wp2_with fail
            refine (H1.out _).mono ?_
            rintro e w1 ⟨rfl, hb1⟩
            clear o0 o1 o2 o3 c0 c1 c2 c3
            replace hA := row_below hA hb1 hA.lt
            replace hB := row_below hB hb1 hB.lt
            replace hC := row_below hC hb1 hC.lt
            replace hR := row_below hR hb1 hR.lt
            replace hO := row_below hO hb1 hO.lt
            replace hbel := hbel.trans (hb1.mono hbel.size)
            clear hb1
            obtain ⟨o0, o1, o2, o3⟩ := row_c4 hO
            obtain ⟨f0, f1, f2, f3⟩ := row_f4 hO
            go_upto_region 11 with (fail)
            replace hA := row_far4 hA (b' := w.heap.size + 1 + 1 + 1) (by omega) (.int .u64 (wd D 0)) (.int .u64 (wd D 1)) (.int .u64 (wd D 2)) (.int .u64 (wd D 3))
            replace hB := row_far4 hB (b' := w.heap.size + 1 + 1 + 1) (by omega) (.int .u64 (wd D 0)) (.int .u64 (wd D 1)) (.int .u64 (wd D 2)) (.int .u64 (wd D 3))
            replace hC := row_far4 hC (b' := w.heap.size + 1 + 1 + 1) (by omega) (.int .u64 (wd D 0)) (.int .u64 (wd D 1)) (.int .u64 (wd D 2)) (.int .u64 (wd D 3))
            replace hR := row_far4 hR (b' := w.heap.size + 1 + 1 + 1) (by omega) (.int .u64 (wd D 0)) (.int .u64 (wd D 1)) (.int .u64 (wd D 2)) (.int .u64 (wd D 3))
            replace hbel := below_put4 (b := w.heap.size + 1 + 1 + 1) hbel (by omega) (.int .u64 (wd D 0)) (.int .u64 (wd D 1)) (.int .u64 (wd D 2)) (.int .u64 (wd D 3))
            replace hO := put4 hO (fun j => .int .u64 (wd D j))
            clear o0 o1 o2 o3 f0 f1 f2 f3
            generalize (((w1.setCell ⟨w.heap.size + 1 + 1 + 1, 0, none⟩ (.int .u64 (wd D 0))).setCell ⟨w.heap.size + 1 + 1 + 1, 1, none⟩ (.int .u64 (wd D 1))).setCell ⟨w.heap.size + 1 + 1 + 1, 2, none⟩ (.int .u64 (wd D 2))).setCell ⟨w.heap.size + 1 + 1 + 1, 3, none⟩ (.int .u64 (wd D 3)) = v1 at *
            obtain ⟨o0, o1, o2, o3⟩ := row_c4 hO
            obtain ⟨c0, c1, c2, c3⟩ := row_c4 hC
            go_wp2
            go_roundw
            case rel => exact ⟨m + 1, by omega, by go_num, rfl, hA, hB, hC, hR, by rw [show 64 * (k + 1) - (m + 1) = n by have := hN.out; omega, ← E1.out]; exact hO, hbel⟩
            case measure => simp [intOf]; omega
        · obtain rfl : m = 64 := by omega
          go_wp2
          go_roundw
          case rel => exact ⟨k, by omega, by go_num, hA, hB, hC, hR, by rw [show 64 * (k + 1) - 64 = 64 * k by omega] at hO; exact hO, hbel⟩
          case measure => simp [intOf]

end Go.Proofs.Ytkfomfpeangcdaa
