/-
  (*field.Field).Mul: of any two numbers.
-/
import Derived.Test.YtkfomfpeangcdaaFCut
namespace Go.Proofs.Ytkfomfpeangcdaa
open Go.RowKit

set_option maxRecDepth 100000 in
set_option maxHeartbeats 8000000 in
theorem fmul2_calls (b X Y M : Nat) (N : Int) (Q Z : Nat) (hX : X < top) (hY : Y < top) (hK : Fok M N Q) (hZ : X * Y % M = Z) (w : World) (hF : Fb w b M N Q) :
    Calls Try.prog 21 #[.pointer (some ⟨b, 0, none⟩), .agg #[.int .u64 (wd (X) 0), .int .u64 (wd (X) 1), .int .u64 (wd (X) 2), .int .u64 (wd (X) 3)], .agg #[.int .u64 (wd (Y) 0), .int .u64 (wd (Y) 1), .int .u64 (wd (Y) 2), .int .u64 (wd (Y) 3)]] w fun e w' => e = .returned (.agg #[.int .u64 (wd (Z) 0), .int .u64 (wd (Z) 1), .int .u64 (wd (Z) 2), .int .u64 (wd (Z) 3)]) ∧ Below w.heap.size w w' := by
  have K1 := veil (fun W => kmul X Y _ rfl hX hY W)
  have K2 := veil (fun W (h : Fb W b M N Q) => cutw_calls b (X * Y) M N Q Z (mul_lt8 hX hY) hK hZ W h)
  clear hX hY hK hZ
  generalize X * Y = P at *
  have hA : (((w.alloc (.cells #[.int .u64 (wd (X) 0), .int .u64 (wd (X) 1), .int .u64 (wd (X) 2), .int .u64 (wd (X) 3)] 24)).alloc (.cells #[.int .u64 (wd (Y) 0), .int .u64 (wd (Y) 1), .int .u64 (wd (Y) 2), .int .u64 (wd (Y) 3)] 24)).alloc (.cells #[.int .u64 0, .int .u64 0, .int .u64 0, .int .u64 0] 24)).rowIs w.heap.size 24 4 (fun j => .int .u64 (wd X j)) := ((row_new (n := 4) (by simp) rfl (arr4 fun j => .int .u64 (wd X j))).alloc _).alloc _
  have hB : (((w.alloc (.cells #[.int .u64 (wd (X) 0), .int .u64 (wd (X) 1), .int .u64 (wd (X) 2), .int .u64 (wd (X) 3)] 24)).alloc (.cells #[.int .u64 (wd (Y) 0), .int .u64 (wd (Y) 1), .int .u64 (wd (Y) 2), .int .u64 (wd (Y) 3)] 24)).alloc (.cells #[.int .u64 0, .int .u64 0, .int .u64 0, .int .u64 0] 24)).rowIs (w.heap.size + 1) 24 4 (fun j => .int .u64 (wd Y j)) := (row_new (n := 4) (by simp) rfl (arr4 fun j => .int .u64 (wd Y j))).alloc _
  have hR : (((w.alloc (.cells #[.int .u64 (wd (X) 0), .int .u64 (wd (X) 1), .int .u64 (wd (X) 2), .int .u64 (wd (X) 3)] 24)).alloc (.cells #[.int .u64 (wd (Y) 0), .int .u64 (wd (Y) 1), .int .u64 (wd (Y) 2), .int .u64 (wd (Y) 3)] 24)).alloc (.cells #[.int .u64 0, .int .u64 0, .int .u64 0, .int .u64 0] 24)).rowIs (w.heap.size + 1 + 1) 24 4 (fun _ => .int .u64 0) := row_new (n := 4) (by simp) rfl (arr4 fun _ => .int .u64 0)
  have hbel : Below w.heap.size w (((w.alloc (.cells #[.int .u64 (wd (X) 0), .int .u64 (wd (X) 1), .int .u64 (wd (X) 2), .int .u64 (wd (X) 3)] 24)).alloc (.cells #[.int .u64 (wd (Y) 0), .int .u64 (wd (Y) 1), .int .u64 (wd (Y) 2), .int .u64 (wd (Y) 3)] 24)).alloc (.cells #[.int .u64 0, .int .u64 0, .int .u64 0, .int .u64 0] 24)) := (((Below.refl _ _).alloc (by simp) _).alloc (by simp) _).alloc (by simp; omega) _
  have hFr : Fb (((w.alloc (.cells #[.int .u64 (wd (X) 0), .int .u64 (wd (X) 1), .int .u64 (wd (X) 2), .int .u64 (wd (X) 3)] 24)).alloc (.cells #[.int .u64 (wd (Y) 0), .int .u64 (wd (Y) 1), .int .u64 (wd (Y) 2), .int .u64 (wd (Y) 3)] 24)).alloc (.cells #[.int .u64 0, .int .u64 0, .int .u64 0, .int .u64 0] 24)) b M N Q := (((hF).alloc _).alloc _).alloc _
  have hbs := hF.lt
  clear hF
  go_enter Try.func21, Try.ntmps21
  obtain ⟨a0, a1, a2, a3⟩ := row_c4 hA
  obtain ⟨b0, b1, b2, b3⟩ := row_c4 hB
  go_wp2_with fail
  refine (K1.out _).mono ?_
  rintro e w1 ⟨rfl, hb1⟩
  replace hR := row_below (by exact hR) hb1 (by exact hR.lt)
  replace hFr := Fb.below (by exact hFr) hb1 (by exact hFr.lt)
  replace hbel := Below.trans (by first | exact hbel | exact hbel.drew) (hb1.mono (by exact hbel.size))
  clear a0 a1 a2 a3 b0 b1 b2 b3 hA hB hb1
  go_wp2_with fail
  refine (K2.out _ hFr).mono ?_
  rintro e w2 ⟨rfl, hb2⟩
  replace hR := row_below (by exact hR) hb2 (by exact hR.lt)
  replace hFr := Fb.below (by exact hFr) hb2 (by exact hFr.lt)
  replace hbel := Below.trans (by first | exact hbel | exact hbel.drew) (hb2.mono (by exact hbel.size))
  clear hb2 hFr
  obtain ⟨f0, f1, f2, f3⟩ := row_f4 hR
  obtain ⟨d0, d1, d2, d3⟩ := row_c4 hR
  go_wp2
  refine bodyPost_ret (results_cell_row rfl _ _ (w.heap.size + 1 + 1) 24 #[.int .u64 (wd (Z) 0), .int .u64 (wd (Z) 1), .int .u64 (wd (Z) 2), .int .u64 (wd (Z) 3)] (0, 0) _ rfl (blk4 (put4 hR fun j => .int .u64 (wd (Z) j))) Try.underlying24 rfl (by kernel_rfl)) rfl ⟨rfl, below_put4 hbel (by omega) _ _ _ _⟩
end Go.Proofs.Ytkfomfpeangcdaa
