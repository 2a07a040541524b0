/-
  clapperref02.Add, Sub: the document's sum and difference modulo a number.
-/
import Derived.Test.YtkfomfpeangcdaaG2
namespace Go.Proofs.Ytkfomfpeangcdaa
open Go.RowKit

theorem ret_num {X Y : Nat} (h : X = Y) : Ending.returned (.agg #[.int .u64 (wd (X) 0), .int .u64 (wd (X) 1), .int .u64 (wd (X) 2), .int .u64 (wd (X) 3)]) = .returned (.agg #[.int .u64 (wd (Y) 0), .int .u64 (wd (Y) 1), .int .u64 (wd (Y) 2), .int .u64 (wd (Y) 3)]) := by rw [h]

set_option maxHeartbeats 2000000 in
theorem gadd_over (X Y M S D : Nat) (hX : X < top) (hY : Y < top) (hM : M < top) (hS : (X + Y) % top = S) (hu : decide (top ≤ X + Y) = true) (hD : (S + top - M) % top = D) (w : World) :
    Calls Try.prog 18 #[.agg #[.int .u64 (wd (X) 0), .int .u64 (wd (X) 1), .int .u64 (wd (X) 2), .int .u64 (wd (X) 3)], .agg #[.int .u64 (wd (Y) 0), .int .u64 (wd (Y) 1), .int .u64 (wd (Y) 2), .int .u64 (wd (Y) 3)], .agg #[.int .u64 (wd (M) 0), .int .u64 (wd (M) 1), .int .u64 (wd (M) 2), .int .u64 (wd (M) 3)]] w fun e w' => e = .returned (.agg #[.int .u64 (wd (D) 0), .int .u64 (wd (D) 1), .int .u64 (wd (D) 2), .int .u64 (wd (D) 3)]) ∧ Below w.heap.size w w' := by
  have hSt : S < top := by rw [← hS]; exact Nat.mod_lt _ top_pos
  have HS := veil hS
  have HU := veil hu
  have HD := veil hD
  clear hS hu hD
  have hX0 : ((((w.alloc (.cells #[.int .u64 (wd (X) 0), .int .u64 (wd (X) 1), .int .u64 (wd (X) 2), .int .u64 (wd (X) 3)] 24)).alloc (.cells #[.int .u64 (wd (Y) 0), .int .u64 (wd (Y) 1), .int .u64 (wd (Y) 2), .int .u64 (wd (Y) 3)] 24)).alloc (.cells #[.int .u64 (wd (M) 0), .int .u64 (wd (M) 1), .int .u64 (wd (M) 2), .int .u64 (wd (M) 3)] 24)).alloc (.cells #[.int .u64 0, .int .u64 0, .int .u64 0, .int .u64 0] 24)).rowIs w.heap.size 24 4 (fun j => .int .u64 (wd X j)) := (((row_new (n := 4) (by simp) rfl (arr4 fun j => .int .u64 (wd X j))).alloc _).alloc _).alloc _
  have hY0 : ((((w.alloc (.cells #[.int .u64 (wd (X) 0), .int .u64 (wd (X) 1), .int .u64 (wd (X) 2), .int .u64 (wd (X) 3)] 24)).alloc (.cells #[.int .u64 (wd (Y) 0), .int .u64 (wd (Y) 1), .int .u64 (wd (Y) 2), .int .u64 (wd (Y) 3)] 24)).alloc (.cells #[.int .u64 (wd (M) 0), .int .u64 (wd (M) 1), .int .u64 (wd (M) 2), .int .u64 (wd (M) 3)] 24)).alloc (.cells #[.int .u64 0, .int .u64 0, .int .u64 0, .int .u64 0] 24)).rowIs (w.heap.size + 1) 24 4 (fun j => .int .u64 (wd Y j)) := ((row_new (n := 4) (by simp) rfl (arr4 fun j => .int .u64 (wd Y j))).alloc _).alloc _
  have hM0 : ((((w.alloc (.cells #[.int .u64 (wd (X) 0), .int .u64 (wd (X) 1), .int .u64 (wd (X) 2), .int .u64 (wd (X) 3)] 24)).alloc (.cells #[.int .u64 (wd (Y) 0), .int .u64 (wd (Y) 1), .int .u64 (wd (Y) 2), .int .u64 (wd (Y) 3)] 24)).alloc (.cells #[.int .u64 (wd (M) 0), .int .u64 (wd (M) 1), .int .u64 (wd (M) 2), .int .u64 (wd (M) 3)] 24)).alloc (.cells #[.int .u64 0, .int .u64 0, .int .u64 0, .int .u64 0] 24)).rowIs (w.heap.size + 1 + 1) 24 4 (fun j => .int .u64 (wd M j)) := (row_new (n := 4) (by simp) rfl (arr4 fun j => .int .u64 (wd M j))).alloc _
  have hZ0 : ((((w.alloc (.cells #[.int .u64 (wd (X) 0), .int .u64 (wd (X) 1), .int .u64 (wd (X) 2), .int .u64 (wd (X) 3)] 24)).alloc (.cells #[.int .u64 (wd (Y) 0), .int .u64 (wd (Y) 1), .int .u64 (wd (Y) 2), .int .u64 (wd (Y) 3)] 24)).alloc (.cells #[.int .u64 (wd (M) 0), .int .u64 (wd (M) 1), .int .u64 (wd (M) 2), .int .u64 (wd (M) 3)] 24)).alloc (.cells #[.int .u64 0, .int .u64 0, .int .u64 0, .int .u64 0] 24)).rowIs (w.heap.size + 1 + 1 + 1) 24 4 (fun _ => .int .u64 0) := row_new (n := 4) (by simp) rfl (arr4 fun _ => .int .u64 0)
  have hB0 : Below w.heap.size w ((((w.alloc (.cells #[.int .u64 (wd (X) 0), .int .u64 (wd (X) 1), .int .u64 (wd (X) 2), .int .u64 (wd (X) 3)] 24)).alloc (.cells #[.int .u64 (wd (Y) 0), .int .u64 (wd (Y) 1), .int .u64 (wd (Y) 2), .int .u64 (wd (Y) 3)] 24)).alloc (.cells #[.int .u64 (wd (M) 0), .int .u64 (wd (M) 1), .int .u64 (wd (M) 2), .int .u64 (wd (M) 3)] 24)).alloc (.cells #[.int .u64 0, .int .u64 0, .int .u64 0, .int .u64 0] 24)) := ((((Below.refl _ _).alloc (by simp) _).alloc (by simp) _).alloc (by simp; omega) _).alloc (by simp; omega) _
  go_enter Try.func18, Try.ntmps18
  obtain ⟨a0, a1, a2, a3⟩ := row_c4 hX0
  obtain ⟨b0, b1, b2, b3⟩ := row_c4 hY0
  go_wp2_with fail
  refine (plus_is X Y S true HS.out HU.out hX hY _).mono ?_
  rintro e w1 ⟨rfl, hb1⟩
  clear a0 a1 a2 a3 b0 b1 b2 b3
  have hM1 := row_below hM0 hb1 hM0.lt
  have hZ1 := row_below hZ0 hb1 hZ0.lt
  have hB1 := hB0.trans (hb1.mono hB0.size)
  have hS2 : (w1.alloc (.cells #[.int .u64 (wd (S) 0), .int .u64 (wd (S) 1), .int .u64 (wd (S) 2), .int .u64 (wd (S) 3)] 24)).rowIs w1.heap.size 24 4 (fun j => .int .u64 (wd S j)) := row_new (n := 4) rfl rfl (arr4 fun j => .int .u64 (wd S j))
  have hM2 := hM1.alloc (.cells #[.int .u64 (wd (S) 0), .int .u64 (wd (S) 1), .int .u64 (wd (S) 2), .int .u64 (wd (S) 3)] 24)
  have hZ2 := hZ1.alloc (.cells #[.int .u64 (wd (S) 0), .int .u64 (wd (S) 1), .int .u64 (wd (S) 2), .int .u64 (wd (S) 3)] 24)
  have hB2 := hB1.alloc hB1.size (.cells #[.int .u64 (wd (S) 0), .int .u64 (wd (S) 1), .int .u64 (wd (S) 2), .int .u64 (wd (S) 3)] 24)
  have nz := hZ1.lt
  have nm := hM1.lt
  clear hX0 hY0 hM0 hZ0 hB0 hb1 hM1 hZ1 hB1
  obtain ⟨s0, s1, s2, s3⟩ := row_c4 hS2
  obtain ⟨m0, m1, m2, m3⟩ := row_c4 hM2
  go_wp2_with fail
  refine (minus_is S M D HD.out hSt hM _).mono ?_
  rintro e w5 ⟨rfl, hb5⟩
  clear s0 s1 s2 s3 m0 m1 m2 m3
  have hS5 := row_below hS2 hb5 hS2.lt
  have hZ5 := row_below hZ2 hb5 hZ2.lt
  have hB5 := hB2.trans (hb5.mono hB2.size)
  clear hS2 hM2 hZ2 hB2 hb5
  obtain ⟨t0, t1, t2, t3⟩ := row_f4 hS5
  obtain ⟨v0, v1, v2, v3⟩ := row_c4 hS5
  go_upto_region 4 with (fail)
  have hTz := put4 hS5 (fun j => .int .u64 (wd D j))
  have hZz := row_far4 hZ5 (Nat.ne_of_lt nz) (.int .u64 (wd D 0)) (.int .u64 (wd D 1)) (.int .u64 (wd D 2)) (.int .u64 (wd D 3))
  have hBz := below_put4 (b := w1.heap.size) hB5 (by omega) (.int .u64 (wd D 0)) (.int .u64 (wd D 1)) (.int .u64 (wd D 2)) (.int .u64 (wd D 3))
  clear v0 v1 v2 v3 t0 t1 t2 t3 hS5 hZ5 hB5
  generalize ((((w5.setCell ⟨w1.heap.size, 0, none⟩ (.int .u64 (wd D 0))).setCell ⟨w1.heap.size, 1, none⟩ (.int .u64 (wd D 1))).setCell ⟨w1.heap.size, 2, none⟩ (.int .u64 (wd D 2))).setCell ⟨w1.heap.size, 3, none⟩ (.int .u64 (wd D 3))) = wz at *
  obtain ⟨p0, p1, p2, p3⟩ := row_c4 hTz
  obtain ⟨d0, d1, d2, d3⟩ := row_c4 hZz
  obtain ⟨f0, f1, f2, f3⟩ := row_f4 hZz
  go_wp2
  refine bodyPost_ret (results_cell_row rfl _ _ (w.heap.size + 1 + 1 + 1) 24 #[.int .u64 (wd (D) 0), .int .u64 (wd (D) 1), .int .u64 (wd (D) 2), .int .u64 (wd (D) 3)] (0, 0) _ rfl (blk4 (put4 hZz fun j => .int .u64 (wd D j))) Try.underlying24 rfl (by kernel_rfl)) rfl ⟨rfl, below_put4 hBz (by omega) _ _ _ _⟩

set_option maxHeartbeats 2000000 in
theorem gadd_less (X Y M S : Nat) (hX : X < top) (hY : Y < top) (hM : M < top) (hS : (X + Y) % top = S) (hu : decide (top ≤ X + Y) = false) (hl : decide (S < M) = true) (w : World) :
    Calls Try.prog 18 #[.agg #[.int .u64 (wd (X) 0), .int .u64 (wd (X) 1), .int .u64 (wd (X) 2), .int .u64 (wd (X) 3)], .agg #[.int .u64 (wd (Y) 0), .int .u64 (wd (Y) 1), .int .u64 (wd (Y) 2), .int .u64 (wd (Y) 3)], .agg #[.int .u64 (wd (M) 0), .int .u64 (wd (M) 1), .int .u64 (wd (M) 2), .int .u64 (wd (M) 3)]] w fun e w' => e = .returned (.agg #[.int .u64 (wd (S) 0), .int .u64 (wd (S) 1), .int .u64 (wd (S) 2), .int .u64 (wd (S) 3)]) ∧ Below w.heap.size w w' := by
  have hSt : S < top := by rw [← hS]; exact Nat.mod_lt _ top_pos
  have HS := veil hS
  have HU := veil hu
  have HL := veil hl
  clear hS hu hl
  have hX0 : ((((w.alloc (.cells #[.int .u64 (wd (X) 0), .int .u64 (wd (X) 1), .int .u64 (wd (X) 2), .int .u64 (wd (X) 3)] 24)).alloc (.cells #[.int .u64 (wd (Y) 0), .int .u64 (wd (Y) 1), .int .u64 (wd (Y) 2), .int .u64 (wd (Y) 3)] 24)).alloc (.cells #[.int .u64 (wd (M) 0), .int .u64 (wd (M) 1), .int .u64 (wd (M) 2), .int .u64 (wd (M) 3)] 24)).alloc (.cells #[.int .u64 0, .int .u64 0, .int .u64 0, .int .u64 0] 24)).rowIs w.heap.size 24 4 (fun j => .int .u64 (wd X j)) := (((row_new (n := 4) (by simp) rfl (arr4 fun j => .int .u64 (wd X j))).alloc _).alloc _).alloc _
  have hY0 : ((((w.alloc (.cells #[.int .u64 (wd (X) 0), .int .u64 (wd (X) 1), .int .u64 (wd (X) 2), .int .u64 (wd (X) 3)] 24)).alloc (.cells #[.int .u64 (wd (Y) 0), .int .u64 (wd (Y) 1), .int .u64 (wd (Y) 2), .int .u64 (wd (Y) 3)] 24)).alloc (.cells #[.int .u64 (wd (M) 0), .int .u64 (wd (M) 1), .int .u64 (wd (M) 2), .int .u64 (wd (M) 3)] 24)).alloc (.cells #[.int .u64 0, .int .u64 0, .int .u64 0, .int .u64 0] 24)).rowIs (w.heap.size + 1) 24 4 (fun j => .int .u64 (wd Y j)) := ((row_new (n := 4) (by simp) rfl (arr4 fun j => .int .u64 (wd Y j))).alloc _).alloc _
  have hM0 : ((((w.alloc (.cells #[.int .u64 (wd (X) 0), .int .u64 (wd (X) 1), .int .u64 (wd (X) 2), .int .u64 (wd (X) 3)] 24)).alloc (.cells #[.int .u64 (wd (Y) 0), .int .u64 (wd (Y) 1), .int .u64 (wd (Y) 2), .int .u64 (wd (Y) 3)] 24)).alloc (.cells #[.int .u64 (wd (M) 0), .int .u64 (wd (M) 1), .int .u64 (wd (M) 2), .int .u64 (wd (M) 3)] 24)).alloc (.cells #[.int .u64 0, .int .u64 0, .int .u64 0, .int .u64 0] 24)).rowIs (w.heap.size + 1 + 1) 24 4 (fun j => .int .u64 (wd M j)) := (row_new (n := 4) (by simp) rfl (arr4 fun j => .int .u64 (wd M j))).alloc _
  have hZ0 : ((((w.alloc (.cells #[.int .u64 (wd (X) 0), .int .u64 (wd (X) 1), .int .u64 (wd (X) 2), .int .u64 (wd (X) 3)] 24)).alloc (.cells #[.int .u64 (wd (Y) 0), .int .u64 (wd (Y) 1), .int .u64 (wd (Y) 2), .int .u64 (wd (Y) 3)] 24)).alloc (.cells #[.int .u64 (wd (M) 0), .int .u64 (wd (M) 1), .int .u64 (wd (M) 2), .int .u64 (wd (M) 3)] 24)).alloc (.cells #[.int .u64 0, .int .u64 0, .int .u64 0, .int .u64 0] 24)).rowIs (w.heap.size + 1 + 1 + 1) 24 4 (fun _ => .int .u64 0) := row_new (n := 4) (by simp) rfl (arr4 fun _ => .int .u64 0)
  have hB0 : Below w.heap.size w ((((w.alloc (.cells #[.int .u64 (wd (X) 0), .int .u64 (wd (X) 1), .int .u64 (wd (X) 2), .int .u64 (wd (X) 3)] 24)).alloc (.cells #[.int .u64 (wd (Y) 0), .int .u64 (wd (Y) 1), .int .u64 (wd (Y) 2), .int .u64 (wd (Y) 3)] 24)).alloc (.cells #[.int .u64 (wd (M) 0), .int .u64 (wd (M) 1), .int .u64 (wd (M) 2), .int .u64 (wd (M) 3)] 24)).alloc (.cells #[.int .u64 0, .int .u64 0, .int .u64 0, .int .u64 0] 24)) := ((((Below.refl _ _).alloc (by simp) _).alloc (by simp) _).alloc (by simp; omega) _).alloc (by simp; omega) _
  go_enter Try.func18, Try.ntmps18
  obtain ⟨a0, a1, a2, a3⟩ := row_c4 hX0
  obtain ⟨b0, b1, b2, b3⟩ := row_c4 hY0
  go_wp2_with fail
  refine (plus_is X Y S false HS.out HU.out hX hY _).mono ?_
  rintro e w1 ⟨rfl, hb1⟩
  clear a0 a1 a2 a3 b0 b1 b2 b3
  have hM1 := row_below hM0 hb1 hM0.lt
  have hZ1 := row_below hZ0 hb1 hZ0.lt
  have hB1 := hB0.trans (hb1.mono hB0.size)
  have hS2 : (w1.alloc (.cells #[.int .u64 (wd (S) 0), .int .u64 (wd (S) 1), .int .u64 (wd (S) 2), .int .u64 (wd (S) 3)] 24)).rowIs w1.heap.size 24 4 (fun j => .int .u64 (wd S j)) := row_new (n := 4) rfl rfl (arr4 fun j => .int .u64 (wd S j))
  have hM2 := hM1.alloc (.cells #[.int .u64 (wd (S) 0), .int .u64 (wd (S) 1), .int .u64 (wd (S) 2), .int .u64 (wd (S) 3)] 24)
  have hZ2 := hZ1.alloc (.cells #[.int .u64 (wd (S) 0), .int .u64 (wd (S) 1), .int .u64 (wd (S) 2), .int .u64 (wd (S) 3)] 24)
  have hB2 := hB1.alloc hB1.size (.cells #[.int .u64 (wd (S) 0), .int .u64 (wd (S) 1), .int .u64 (wd (S) 2), .int .u64 (wd (S) 3)] 24)
  have nz := hZ1.lt
  have nm := hM1.lt
  clear hX0 hY0 hM0 hZ0 hB0 hb1 hM1 hZ1 hB1
  obtain ⟨s0, s1, s2, s3⟩ := row_c4 hS2
  obtain ⟨m0, m1, m2, m3⟩ := row_c4 hM2
  go_wp2_with fail
  refine (less_is S M true HL.out hSt hM _).mono ?_
  rintro e w3 ⟨rfl, hb3⟩
  clear s0 s1 s2 s3 m0 m1 m2 m3
  have hS3 := row_below hS2 hb3 hS2.lt
  have hM3 := row_below hM2 hb3 hM2.lt
  have hZ3 := row_below hZ2 hb3 hZ2.lt
  have hB3 := hB2.trans (hb3.mono hB2.size)
  clear hS2 hM2 hZ2 hB2 hb3
  obtain ⟨s0, s1, s2, s3⟩ := row_c4 hS3
  obtain ⟨m0, m1, m2, m3⟩ := row_c4 hM3
  obtain ⟨d0, d1, d2, d3⟩ := row_c4 hZ3
  obtain ⟨f0, f1, f2, f3⟩ := row_f4 hZ3
  go_wp2
  refine bodyPost_ret (results_cell_row rfl _ _ (w.heap.size + 1 + 1 + 1) 24 #[.int .u64 (wd (S) 0), .int .u64 (wd (S) 1), .int .u64 (wd (S) 2), .int .u64 (wd (S) 3)] (0, 0) _ rfl (blk4 (put4 hZ3 fun j => .int .u64 (wd S j))) Try.underlying24 rfl (by kernel_rfl)) rfl ⟨rfl, below_put4 hB3 (by omega) _ _ _ _⟩

set_option maxHeartbeats 2000000 in
theorem gadd_more (X Y M S D : Nat) (hX : X < top) (hY : Y < top) (hM : M < top) (hS : (X + Y) % top = S) (hu : decide (top ≤ X + Y) = false) (hl : decide (S < M) = false) (hD : (S + top - M) % top = D) (w : World) :
    Calls Try.prog 18 #[.agg #[.int .u64 (wd (X) 0), .int .u64 (wd (X) 1), .int .u64 (wd (X) 2), .int .u64 (wd (X) 3)], .agg #[.int .u64 (wd (Y) 0), .int .u64 (wd (Y) 1), .int .u64 (wd (Y) 2), .int .u64 (wd (Y) 3)], .agg #[.int .u64 (wd (M) 0), .int .u64 (wd (M) 1), .int .u64 (wd (M) 2), .int .u64 (wd (M) 3)]] w fun e w' => e = .returned (.agg #[.int .u64 (wd (D) 0), .int .u64 (wd (D) 1), .int .u64 (wd (D) 2), .int .u64 (wd (D) 3)]) ∧ Below w.heap.size w w' := by
  have hSt : S < top := by rw [← hS]; exact Nat.mod_lt _ top_pos
  have HS := veil hS
  have HU := veil hu
  have HL := veil hl
  have HD := veil hD
  clear hS hu hl hD
  have hX0 : ((((w.alloc (.cells #[.int .u64 (wd (X) 0), .int .u64 (wd (X) 1), .int .u64 (wd (X) 2), .int .u64 (wd (X) 3)] 24)).alloc (.cells #[.int .u64 (wd (Y) 0), .int .u64 (wd (Y) 1), .int .u64 (wd (Y) 2), .int .u64 (wd (Y) 3)] 24)).alloc (.cells #[.int .u64 (wd (M) 0), .int .u64 (wd (M) 1), .int .u64 (wd (M) 2), .int .u64 (wd (M) 3)] 24)).alloc (.cells #[.int .u64 0, .int .u64 0, .int .u64 0, .int .u64 0] 24)).rowIs w.heap.size 24 4 (fun j => .int .u64 (wd X j)) := (((row_new (n := 4) (by simp) rfl (arr4 fun j => .int .u64 (wd X j))).alloc _).alloc _).alloc _
  have hY0 : ((((w.alloc (.cells #[.int .u64 (wd (X) 0), .int .u64 (wd (X) 1), .int .u64 (wd (X) 2), .int .u64 (wd (X) 3)] 24)).alloc (.cells #[.int .u64 (wd (Y) 0), .int .u64 (wd (Y) 1), .int .u64 (wd (Y) 2), .int .u64 (wd (Y) 3)] 24)).alloc (.cells #[.int .u64 (wd (M) 0), .int .u64 (wd (M) 1), .int .u64 (wd (M) 2), .int .u64 (wd (M) 3)] 24)).alloc (.cells #[.int .u64 0, .int .u64 0, .int .u64 0, .int .u64 0] 24)).rowIs (w.heap.size + 1) 24 4 (fun j => .int .u64 (wd Y j)) := ((row_new (n := 4) (by simp) rfl (arr4 fun j => .int .u64 (wd Y j))).alloc _).alloc _
  have hM0 : ((((w.alloc (.cells #[.int .u64 (wd (X) 0), .int .u64 (wd (X) 1), .int .u64 (wd (X) 2), .int .u64 (wd (X) 3)] 24)).alloc (.cells #[.int .u64 (wd (Y) 0), .int .u64 (wd (Y) 1), .int .u64 (wd (Y) 2), .int .u64 (wd (Y) 3)] 24)).alloc (.cells #[.int .u64 (wd (M) 0), .int .u64 (wd (M) 1), .int .u64 (wd (M) 2), .int .u64 (wd (M) 3)] 24)).alloc (.cells #[.int .u64 0, .int .u64 0, .int .u64 0, .int .u64 0] 24)).rowIs (w.heap.size + 1 + 1) 24 4 (fun j => .int .u64 (wd M j)) := (row_new (n := 4) (by simp) rfl (arr4 fun j => .int .u64 (wd M j))).alloc _
  have hZ0 : ((((w.alloc (.cells #[.int .u64 (wd (X) 0), .int .u64 (wd (X) 1), .int .u64 (wd (X) 2), .int .u64 (wd (X) 3)] 24)).alloc (.cells #[.int .u64 (wd (Y) 0), .int .u64 (wd (Y) 1), .int .u64 (wd (Y) 2), .int .u64 (wd (Y) 3)] 24)).alloc (.cells #[.int .u64 (wd (M) 0), .int .u64 (wd (M) 1), .int .u64 (wd (M) 2), .int .u64 (wd (M) 3)] 24)).alloc (.cells #[.int .u64 0, .int .u64 0, .int .u64 0, .int .u64 0] 24)).rowIs (w.heap.size + 1 + 1 + 1) 24 4 (fun _ => .int .u64 0) := row_new (n := 4) (by simp) rfl (arr4 fun _ => .int .u64 0)
  have hB0 : Below w.heap.size w ((((w.alloc (.cells #[.int .u64 (wd (X) 0), .int .u64 (wd (X) 1), .int .u64 (wd (X) 2), .int .u64 (wd (X) 3)] 24)).alloc (.cells #[.int .u64 (wd (Y) 0), .int .u64 (wd (Y) 1), .int .u64 (wd (Y) 2), .int .u64 (wd (Y) 3)] 24)).alloc (.cells #[.int .u64 (wd (M) 0), .int .u64 (wd (M) 1), .int .u64 (wd (M) 2), .int .u64 (wd (M) 3)] 24)).alloc (.cells #[.int .u64 0, .int .u64 0, .int .u64 0, .int .u64 0] 24)) := ((((Below.refl _ _).alloc (by simp) _).alloc (by simp) _).alloc (by simp; omega) _).alloc (by simp; omega) _
  go_enter Try.func18, Try.ntmps18
  obtain ⟨a0, a1, a2, a3⟩ := row_c4 hX0
  obtain ⟨b0, b1, b2, b3⟩ := row_c4 hY0
  go_wp2_with fail
  refine (plus_is X Y S false HS.out HU.out hX hY _).mono ?_
  rintro e w1 ⟨rfl, hb1⟩
  clear a0 a1 a2 a3 b0 b1 b2 b3
  have hM1 := row_below hM0 hb1 hM0.lt
  have hZ1 := row_below hZ0 hb1 hZ0.lt
  have hB1 := hB0.trans (hb1.mono hB0.size)
  have hS2 : (w1.alloc (.cells #[.int .u64 (wd (S) 0), .int .u64 (wd (S) 1), .int .u64 (wd (S) 2), .int .u64 (wd (S) 3)] 24)).rowIs w1.heap.size 24 4 (fun j => .int .u64 (wd S j)) := row_new (n := 4) rfl rfl (arr4 fun j => .int .u64 (wd S j))
  have hM2 := hM1.alloc (.cells #[.int .u64 (wd (S) 0), .int .u64 (wd (S) 1), .int .u64 (wd (S) 2), .int .u64 (wd (S) 3)] 24)
  have hZ2 := hZ1.alloc (.cells #[.int .u64 (wd (S) 0), .int .u64 (wd (S) 1), .int .u64 (wd (S) 2), .int .u64 (wd (S) 3)] 24)
  have hB2 := hB1.alloc hB1.size (.cells #[.int .u64 (wd (S) 0), .int .u64 (wd (S) 1), .int .u64 (wd (S) 2), .int .u64 (wd (S) 3)] 24)
  have nz := hZ1.lt
  have nm := hM1.lt
  clear hX0 hY0 hM0 hZ0 hB0 hb1 hM1 hZ1 hB1
  obtain ⟨s0, s1, s2, s3⟩ := row_c4 hS2
  obtain ⟨m0, m1, m2, m3⟩ := row_c4 hM2
  go_wp2_with fail
  refine (less_is S M false HL.out hSt hM _).mono ?_
  rintro e w3 ⟨rfl, hb3⟩
  clear s0 s1 s2 s3 m0 m1 m2 m3
  have hS3 := row_below hS2 hb3 hS2.lt
  have hM3 := row_below hM2 hb3 hM2.lt
  have hZ3 := row_below hZ2 hb3 hZ2.lt
  have hB3 := hB2.trans (hb3.mono hB2.size)
  clear hS2 hM2 hZ2 hB2 hb3
  obtain ⟨s0, s1, s2, s3⟩ := row_c4 hS3
  obtain ⟨m0, m1, m2, m3⟩ := row_c4 hM3
  go_wp2_with fail
  refine (minus_is S M D HD.out hSt hM _).mono ?_
  rintro e w5 ⟨rfl, hb5⟩
  clear s0 s1 s2 s3 m0 m1 m2 m3
  have hS5 := row_below hS3 hb5 hS3.lt
  have hZ5 := row_below hZ3 hb5 hZ3.lt
  have hB5 := hB3.trans (hb5.mono hB3.size)
  clear hS3 hM3 hZ3 hB3 hb5
  obtain ⟨t0, t1, t2, t3⟩ := row_f4 hS5
  obtain ⟨v0, v1, v2, v3⟩ := row_c4 hS5
  go_upto_region 4 with (fail)
  have hTz := put4 hS5 (fun j => .int .u64 (wd D j))
  have hZz := row_far4 hZ5 (Nat.ne_of_lt nz) (.int .u64 (wd D 0)) (.int .u64 (wd D 1)) (.int .u64 (wd D 2)) (.int .u64 (wd D 3))
  have hBz := below_put4 (b := w1.heap.size) hB5 (by omega) (.int .u64 (wd D 0)) (.int .u64 (wd D 1)) (.int .u64 (wd D 2)) (.int .u64 (wd D 3))
  clear v0 v1 v2 v3 t0 t1 t2 t3 hS5 hZ5 hB5
  generalize ((((w5.setCell ⟨w1.heap.size, 0, none⟩ (.int .u64 (wd D 0))).setCell ⟨w1.heap.size, 1, none⟩ (.int .u64 (wd D 1))).setCell ⟨w1.heap.size, 2, none⟩ (.int .u64 (wd D 2))).setCell ⟨w1.heap.size, 3, none⟩ (.int .u64 (wd D 3))) = wz at *
  obtain ⟨p0, p1, p2, p3⟩ := row_c4 hTz
  obtain ⟨d0, d1, d2, d3⟩ := row_c4 hZz
  obtain ⟨f0, f1, f2, f3⟩ := row_f4 hZz
  go_wp2
  refine bodyPost_ret (results_cell_row rfl _ _ (w.heap.size + 1 + 1 + 1) 24 #[.int .u64 (wd (D) 0), .int .u64 (wd (D) 1), .int .u64 (wd (D) 2), .int .u64 (wd (D) 3)] (0, 0) _ rfl (blk4 (put4 hZz fun j => .int .u64 (wd D j))) Try.underlying24 rfl (by kernel_rfl)) rfl ⟨rfl, below_put4 hBz (by omega) _ _ _ _⟩

/-- clapperref02.Add of two numbers below M. -/
theorem gadd_calls (X Y M : Nat) (hX : X < M) (hY : Y < M) (hM : M < top) (w : World) :
    Calls Try.prog 18 #[.agg #[.int .u64 (wd (X) 0), .int .u64 (wd (X) 1), .int .u64 (wd (X) 2), .int .u64 (wd (X) 3)], .agg #[.int .u64 (wd (Y) 0), .int .u64 (wd (Y) 1), .int .u64 (wd (Y) 2), .int .u64 (wd (Y) 3)], .agg #[.int .u64 (wd (M) 0), .int .u64 (wd (M) 1), .int .u64 (wd (M) 2), .int .u64 (wd (M) 3)]] w fun e w' => e = .returned (.agg #[.int .u64 (wd ((X + Y) % M) 0), .int .u64 (wd ((X + Y) % M) 1), .int .u64 (wd ((X + Y) % M) 2), .int .u64 (wd ((X + Y) % M) 3)]) ∧ Below w.heap.size w w' := by
  have h := gsum_num hX hY (Nat.le_of_lt hM)
  by_cases h1 : top ≤ X + Y
  · rw [h, if_pos (Or.inl h1)]
    exact gadd_over X Y M _ _ (by omega) (by omega) hM rfl (by simpa using h1) rfl w
  · by_cases h2 : (X + Y) % top < M
    · rw [h, if_neg (by omega)]
      exact gadd_less X Y M _ (by omega) (by omega) hM rfl (by simpa using h1) (by simpa using h2) w
    · rw [h, if_pos (Or.inr h2)]
      exact gadd_more X Y M _ _ (by omega) (by omega) hM rfl (by simpa using h1) (by simpa using h2) rfl w
end Go.Proofs.Ytkfomfpeangcdaa
