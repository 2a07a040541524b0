/-
  clapperref01.Add: the document's sum.
-/
import Derived.Test.YtlkpbjfkncmcgaaWord
namespace Go.Proofs.Ytlkpbjfkncmcgaa
open Go.RowKit

def cyJ (X Y i : Nat) : Int := (cy w16 X Y i : Nat)
theorem cyJ_bd (X Y i : Nat) : 0 ≤ cyJ X Y i ∧ cyJ X Y i ≤ 1 := by
  have := cy_le w16_pos X Y i
  unfold cyJ; omega
theorem cyJ_zero (X Y : Nat) : cyJ X Y 0 = 0 := by simp [cyJ, cy_zero]
theorem cyJ_succ (X Y i : Nat) : cyJ X Y (i + 1) = (pt X i + pt Y i + cyJ X Y i) / 65536 := by
  unfold cyJ pt
  rw [cy_succ w16_pos]
  unfold w16
  omega
theorem pt_add (X Y i : Nat) : pt (X + Y) i = (pt X i + pt Y i + cyJ X Y i) % 65536 := by
  unfold cyJ pt
  rw [dg_add w16_pos]
  unfold w16
  omega
theorem top_w16 : top = w16 ^ 16 := by unfold top; rw [w64_w16, ← Nat.pow_mul]
theorem cyJ_top {X Y : Nat} (hX : X < top) (hY : Y < top) : decide (0 < cyJ X Y 16) = decide (top ≤ X + Y) := by
  unfold cyJ
  rw [top_w16] at *
  rw [cy_top (n := 16) hX hY]
  by_cases h : w16 ^ 16 ≤ X + Y <;> simp [h]

theorem part_step {f : Nat → Value} {Z k : Nat} (_hk : k < 16) : ∀ i, i < 16 → (if i = k then Value.int .i64 (pt Z k) else if i < k then ptv Z i else f i) = if i < k + 1 then ptv Z i else f i := by
  intro i _
  by_cases h : i = k
  · subst h; simp [ptv]
  · rw [if_neg h]; by_cases h2 : i < k
    · rw [if_pos h2, if_pos (by omega)]
    · rw [if_neg h2, if_neg (by omega)]

set_option maxHeartbeats 1000000 in
set_option maxRecDepth 100000 in
theorem radd_any (X Y : Nat) (hX : X < top) (hY : Y < top) (w : World) :
    Calls Try.prog 13 #[.agg #[.int .u64 (wd (X) 0), .int .u64 (wd (X) 1), .int .u64 (wd (X) 2), .int .u64 (wd (X) 3)], .agg #[.int .u64 (wd (Y) 0), .int .u64 (wd (Y) 1), .int .u64 (wd (Y) 2), .int .u64 (wd (Y) 3)]] w fun e w' => e = .returned (.tuple #[.agg #[.int .u64 (wd (X + Y) 0), .int .u64 (wd (X + Y) 1), .int .u64 (wd (X + Y) 2), .int .u64 (wd (X + Y) 3)], .bool (decide (top ≤ X + Y))]) ∧ Below w.heap.size w w' := by
  have hRB : (((w.alloc (.cells #[.int .u64 (wd (X) 0), .int .u64 (wd (X) 1), .int .u64 (wd (X) 2), .int .u64 (wd (X) 3)] 24)).alloc (.cells #[.int .u64 (wd (Y) 0), .int .u64 (wd (Y) 1), .int .u64 (wd (Y) 2), .int .u64 (wd (Y) 3)] 24)).alloc (.cells #[.int .u64 0, .int .u64 0, .int .u64 0, .int .u64 0] 24)).rowIs (w.heap.size + 1) 24 4 (fun j => .int .u64 (wd Y j)) := (row_new (n := 4) (by simp) rfl (arr4 fun j => .int .u64 (wd Y j))).alloc _
  have hRZ : (((w.alloc (.cells #[.int .u64 (wd (X) 0), .int .u64 (wd (X) 1), .int .u64 (wd (X) 2), .int .u64 (wd (X) 3)] 24)).alloc (.cells #[.int .u64 (wd (Y) 0), .int .u64 (wd (Y) 1), .int .u64 (wd (Y) 2), .int .u64 (wd (Y) 3)] 24)).alloc (.cells #[.int .u64 0, .int .u64 0, .int .u64 0, .int .u64 0] 24)).rowIs (w.heap.size + 2) 24 4 (fun _ => .int .u64 0) := row_new (n := 4) (by simp) rfl (arr4 fun _ => .int .u64 0)
  have hB0 : Below w.heap.size w (((w.alloc (.cells #[.int .u64 (wd (X) 0), .int .u64 (wd (X) 1), .int .u64 (wd (X) 2), .int .u64 (wd (X) 3)] 24)).alloc (.cells #[.int .u64 (wd (Y) 0), .int .u64 (wd (Y) 1), .int .u64 (wd (Y) 2), .int .u64 (wd (Y) 3)] 24)).alloc (.cells #[.int .u64 0, .int .u64 0, .int .u64 0, .int .u64 0] 24)) := (((Below.refl _ _).alloc (by simp) _).alloc (by simp) _).alloc (by simp; omega) _
  go_enter Try.func13, Try.ntmps13
  go_wp2_with fail
  refine (parts_calls X _).mono ?_
  rintro e w1 ⟨g1, cap1, rfl, hg1, hp1a, hb1⟩
  simp only [World.size_alloc] at hg1
  have hRB1 := row_below hRB hb1 (by simp)
  have hRZ1 := row_below hRZ hb1 (by simp)
  have hB1 := hB0.trans (hb1.mono (by simp; omega))
  clear hRB hRZ hB0 hb1
  obtain ⟨c0, c1, c2, c3⟩ := row_c4 hRB1
  go_wp2_with fail
  refine (parts_calls Y _).mono ?_
  rintro e w2 ⟨g2, cap2, rfl, hg2, hp2b, hb2⟩
  have hne : g1 < g2 := Nat.lt_of_lt_of_le hp1a.lt hg2
  have hp1b := hp1a.below hb2 hp1a.lt
  have hRZ2 := row_below hRZ1 hb2 hRZ1.lt
  have hB2 := hB1.trans (hb2.mono hB1.size)
  clear hRB1 hRZ1 hB1 hb2 c0 c1 c2 c3 hp1a hg2
  go_wp2
  go_loopw [8, 9] (fun c i wr => ∃ k : Nat, k ≤ 16 ∧ i = .int .i64 k ∧ c = .int .i64 (cyJ X Y k) ∧ Pre wr g1 3 16 (fun j => if j < k then ptv (X + Y) j else ptv X j) ∧ Pre wr g2 3 16 (ptv Y)
      ∧ wr.rowIs (w.heap.size + 2) 24 4 (fun _ => .int .u64 0) ∧ Below w.heap.size w wr)
    (fun _ i _ => 16 - (intOf i).toNat)
  case atStart => exact ⟨0, by omega, rfl, by rw [cyJ_zero], hp1b.congr (by simp), hp2b, hRZ2, hB2⟩
  case round =>
    clear hp1b hp2b hRZ2 hB2
    obtain ⟨k, hk, rfl, rfl, hp1, hp2, hRZ, hbel⟩ := hrel
    by_cases hlt : k < 16
    · have c1 := hp1.cell hlt
      have c2 := hp2.cell hlt
      have f1 := hp1.frozen k
      simp only [Nat.lt_irrefl, if_false, ptv] at c1 c2
      go_wp2
      have l1 := pt_lo X k
      have l2 := pt_lo Y k
      have u1 := pt_lt X k
      have u2 := pt_lt Y k
      obtain ⟨b1, b2⟩ := cyJ_bd X Y k
      go_wp2
      go_region
      go_wp2
      go_roundw
      case rel =>
        rw [← pt_add X Y k]
        exact ⟨k + 1, by omega, by go_num, by rw [cyJ_succ], ((hp1.set k _).congr (part_step hlt)).drew, (hp2.far (by omega) _).drew, (row_far hRZ (by omega) _).drew, (below_set hbel (by omega) _).drew⟩
      case measure => simp [intOf]; omega
    · obtain rfl : k = 16 := by omega
      go_wp2_with fail
      refine (num_calls (X + Y) g1 cap1 _ (hp1.congr (fun i hi => by simp [hi]))).mono ?_
      rintro e w3 ⟨rfl, hb3⟩
      have hRZ3 := row_below hRZ hb3 hRZ.lt
      have hB3 := hbel.trans (hb3.mono hbel.size)
      obtain ⟨d0, d1, d2, d3⟩ := row_c4 hRZ3
      obtain ⟨f0, f1, f2, f3⟩ := row_f4 hRZ3
      have hz := cyJ_top hX hY
      go_wp2
      refine bodyPost_ret (results_cell_tmp2 rfl _ _ (w.heap.size + 2) 24 #[.int .u64 (wd (X + Y) 0), .int .u64 (wd (X + Y) 1), .int .u64 (wd (X + Y) 2), .int .u64 (wd (X + Y) 3)] (0, 0) 4 22 rfl (blk4 (put4 hRZ3 fun j => .int .u64 (wd (X + Y) j))) Try.underlying24 (by kernel_rfl)) rfl ⟨?_, below_put4 hB3 (by omega) _ _ _ _⟩
      rfl

/-- clapperref01.Add of two numbers. -/
theorem radd_calls (X Y : Nat) (hX : X < top) (hY : Y < top) (w : World) :
    Calls Try.prog 13 #[.agg #[.int .u64 (wd (X) 0), .int .u64 (wd (X) 1), .int .u64 (wd (X) 2), .int .u64 (wd (X) 3)], .agg #[.int .u64 (wd (Y) 0), .int .u64 (wd (Y) 1), .int .u64 (wd (Y) 2), .int .u64 (wd (Y) 3)]] w fun e w' => e = .returned (.tuple #[.agg #[.int .u64 (wd ((X + Y) % top) 0), .int .u64 (wd ((X + Y) % top) 1), .int .u64 (wd ((X + Y) % top) 2), .int .u64 (wd ((X + Y) % top) 3)], .bool (decide (top ≤ X + Y))]) ∧ Below w.heap.size w w' := by
  rw [wd_mod _ 0 (by omega), wd_mod _ 1 (by omega), wd_mod _ 2 (by omega), wd_mod _ 3 (by omega)]
  exact radd_any X Y hX hY w
end Go.Proofs.Ytlkpbjfkncmcgaa
