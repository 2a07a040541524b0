/-
  A field's block; field.wide, Mod, inverseOf.
-/
import Derived.Test.YtkfomfpeangcdaaFMath
import Derived.Test.YtkfomfpeangcdaaMem
import Derived.Test.YtkfomfpeangcdaaRows
import Derived.WalkKit
import Derived.WalkSpells
import Derived.WalkLawsBesides
import Derived.Deep.LoopGhost
import Derived.Deep.RegionWith
import Derived.Deep.RegionHeld3
import Derived.Deep.QuietTactic
import Derived.BigQuiet
namespace Go.Proofs.Ytkfomfpeangcdaa
open Go.RowKit

/-- The cells of a field's block. -/
def fdf (M : Nat) (N : Int) (Q : Nat) : Nat → Value := fun j => if j < 4 then .int .u64 (wd M j) else if j = 4 then .int .u64 N else .int .u64 (wd Q (j - 5))
def Fb (w : World) (b M : Nat) (N : Int) (Q : Nat) : Prop := w.rowIs b 53 9 (fdf M N Q)
/-- What a field's numbers are. -/
structure Fok (M : Nat) (N : Int) (Q : Nat) : Prop where
  m2 : 2 < M
  odd : M % 2 = 1
  mt : M < top
  n0 : 0 ≤ N
  n1 : N ≤ 18446744073709551615
  inv : (18446744073709551616 : Int) ∣ wd M 0 * N - 1
  q : Q = top8 % M
theorem Fok.qm {M : Nat} {N : Int} {Q : Nat} (h : Fok M N Q) : Q < M := by rw [h.q]; exact Nat.mod_lt _ (by have := h.m2; omega)

section
variable {w w' : World} {b M Q B : Nat} {N : Int}
theorem Fb.lt (h : Fb w b M N Q) : b < w.heap.size := World.rowIs.lt h
theorem Fb.below (h : Fb w b M N Q) (hb : Below B w w') (hlt : b < B) : Fb w' b M N Q := row_below h hb hlt
theorem Fb.call (h : Fb w b M N Q) (hb : Below w.heap.size w w') : Fb w' b M N Q := row_below h hb h.lt
theorem Fb.drew (h : Fb w b M N Q) : Fb w.drew b M N Q := h
theorem Fb.alloc (h : Fb w b M N Q) (o : Obj) : Fb (w.alloc o) b M N Q := World.rowIs.alloc h o
theorem Fb.far {b' i : Nat} (h : Fb w b M N Q) (hne : b ≠ b') (v : Value) : Fb (w.setCell ⟨b', i, none⟩ v) b M N Q := row_far h hne v
theorem Fb.mod (h : Fb w b M N Q) : w.cell? ⟨b, 0, none⟩ = some (.int .u64 (wd M 0)) ∧ w.cell? ⟨b, 1, none⟩ = some (.int .u64 (wd M 1)) ∧ w.cell? ⟨b, 2, none⟩ = some (.int .u64 (wd M 2)) ∧ w.cell? ⟨b, 3, none⟩ = some (.int .u64 (wd M 3)) :=
  ⟨World.rowIs.cell h (by omega), World.rowIs.cell h (by omega), World.rowIs.cell h (by omega), World.rowIs.cell h (by omega)⟩
theorem Fb.inv (h : Fb w b M N Q) : w.cell? ⟨b, 4, none⟩ = some (.int .u64 N) := World.rowIs.cell h (by omega)
theorem Fb.sq (h : Fb w b M N Q) : w.cell? ⟨b, 5, none⟩ = some (.int .u64 (wd Q 0)) ∧ w.cell? ⟨b, 6, none⟩ = some (.int .u64 (wd Q 1)) ∧ w.cell? ⟨b, 7, none⟩ = some (.int .u64 (wd Q 2)) ∧ w.cell? ⟨b, 8, none⟩ = some (.int .u64 (wd Q 3)) :=
  ⟨World.rowIs.cell h (by omega), World.rowIs.cell h (by omega), World.rowIs.cell h (by omega), World.rowIs.cell h (by omega)⟩
end

theorem wide_num (X : Nat) (h : X < top) : wd X 4 = 0 ∧ wd X 5 = 0 ∧ wd X 6 = 0 ∧ wd X 7 = 0 := by
  have e : ∀ i, 4 ≤ i → wd X i = 0 := by
    intro i hi
    unfold wd dg
    rw [Nat.div_eq_of_lt (Nat.lt_of_lt_of_le h (Nat.pow_le_pow_right w64_pos hi))]; rfl
  exact ⟨e 4 (by omega), e 5 (by omega), e 6 (by omega), e 7 (by omega)⟩

set_option maxHeartbeats 1000000 in
theorem wide_calls (X : Nat) (hX : X < top) (w : World) :
    Calls Try.prog 38 #[.agg #[.int .u64 (wd (X) 0), .int .u64 (wd (X) 1), .int .u64 (wd (X) 2), .int .u64 (wd (X) 3)]] w fun e w' => e = .returned (.agg #[.int .u64 (wd (X) 0), .int .u64 (wd (X) 1), .int .u64 (wd (X) 2), .int .u64 (wd (X) 3), .int .u64 (wd (X) 4), .int .u64 (wd (X) 5), .int .u64 (wd (X) 6), .int .u64 (wd (X) 7)]) ∧ Below w.heap.size w w' := by
  obtain ⟨e4, e5, e6, e7⟩ := wide_num X hX
  rw [e4, e5, e6, e7]
  have hA0 : ((w.alloc (.cells #[.int .u64 (wd (X) 0), .int .u64 (wd (X) 1), .int .u64 (wd (X) 2), .int .u64 (wd (X) 3)] 24)).alloc (.cells #[.int .u64 0, .int .u64 0, .int .u64 0, .int .u64 0, .int .u64 0, .int .u64 0, .int .u64 0, .int .u64 0] 26)).rowIs w.heap.size 24 4 (fun j => .int .u64 (wd X j)) := (row_new (n := 4) (by simp) rfl (arr4 fun j => .int .u64 (wd X j))).alloc _
  have hR0 : ((w.alloc (.cells #[.int .u64 (wd (X) 0), .int .u64 (wd (X) 1), .int .u64 (wd (X) 2), .int .u64 (wd (X) 3)] 24)).alloc (.cells #[.int .u64 0, .int .u64 0, .int .u64 0, .int .u64 0, .int .u64 0, .int .u64 0, .int .u64 0, .int .u64 0] 26)).rowIs (w.heap.size + 1) 26 8 (fun _ => .int .u64 0) := row_new (n := 8) (by simp) rfl (arr8 fun _ => .int .u64 0)
  obtain ⟨c0, c1, c2, c3⟩ := row_c4 hA0
  obtain ⟨f0, f1, f2, f3, f4, f5, f6, f7⟩ := row_f8 hR0
  obtain ⟨d0, d1, d2, d3, d4, d5, d6, d7⟩ := row_c8 hR0
  clear e4 e5 e6 e7
  go_enter Try.func38, Try.ntmps38
  go_wp2
  exact bodyPost_ret (results_cell_row rfl _ _ (w.heap.size + 1) 26 #[.int .u64 (wd X 0), .int .u64 (wd X 1), .int .u64 (wd X 2), .int .u64 (wd X 3), .int .u64 0, .int .u64 0, .int .u64 0, .int .u64 0] (0, 0) _ rfl (blk8 (row_new (n := 8) (f := fun j => if j < 4 then Value.int .u64 (wd X j) else .int .u64 0) (by simp) rfl (arr8 fun j => if j < 4 then Value.int .u64 (wd X j) else .int .u64 0))) Try.underlying26 rfl (by kernel_rfl)) rfl ⟨rfl, ((Below.refl _ _).alloc (by simp) _).alloc (by simp) _⟩

set_option maxHeartbeats 1000000 in
theorem mod_calls (b M : Nat) (N : Int) (Q : Nat) (w : World) (hF : Fb w b M N Q) :
    Calls Try.prog 13 #[.pointer (some ⟨b, 0, none⟩)] w fun e w' => e = .returned (.agg #[.int .u64 (wd (M) 0), .int .u64 (wd (M) 1), .int .u64 (wd (M) 2), .int .u64 (wd (M) 3)]) ∧ Below w.heap.size w w' := by
  have hF0 := hF.alloc (.cells #[.int .u64 0, .int .u64 0, .int .u64 0, .int .u64 0] 24)
  obtain ⟨c0, c1, c2, c3⟩ := hF0.mod
  have hR0 : (w.alloc (.cells #[.int .u64 0, .int .u64 0, .int .u64 0, .int .u64 0] 24)).rowIs w.heap.size 24 4 (fun _ => .int .u64 0) := row_new (n := 4) (by simp) rfl (arr4 fun _ => .int .u64 0)
  obtain ⟨f0, f1, f2, f3⟩ := row_f4 hR0
  obtain ⟨d0, d1, d2, d3⟩ := row_c4 hR0
  clear hF0 hF
  go_enter Try.func13, Try.ntmps13
  go_wp2
  exact bodyPost_ret (results_cell_row rfl _ _ w.heap.size 24 #[.int .u64 (wd (M) 0), .int .u64 (wd (M) 1), .int .u64 (wd (M) 2), .int .u64 (wd (M) 3)] (0, 0) _ rfl (blk4 (row_new (n := 4) (f := fun j => .int .u64 (wd M j)) (by simp) rfl (arr4 fun j => .int .u64 (wd M j)))) Try.underlying24 rfl (by kernel_rfl)) rfl ⟨rfl, (Below.refl _ _).alloc (by simp) _⟩

theorem wrap_in {x y : Int} (h : x % 18446744073709551616 = y) : IntKind.u64.wrap x = y := by rw [IntKind.wrap_u64]; exact h
set_option maxRecDepth 100000 in
set_option maxHeartbeats 1000000 in
theorem inverse_calls (m : Int) (h0 : 0 ≤ m) (h1 : m ≤ 18446744073709551615) (hodd : m % 2 = 1) (w : World) :
    Calls Try.prog 29 #[.int .u64 m] w fun e w' => ∃ n : Int, 0 ≤ n ∧ n ≤ 18446744073709551615 ∧ (18446744073709551616 : Int) ∣ m * n - 1 ∧ e = .returned (.int .u64 n) ∧ w' = w := by
  have hS := veil (dv_start hodd)
  clear hodd
  go_enter Try.func29, Try.ntmps29
  go_wp2
  go_loopw [3, 5] (fun x i wr => ∃ (k : Nat) (n : Int), k ≤ 5 ∧ i = .int .i64 (k : Int) ∧ x = .int .u64 n ∧ 0 ≤ n ∧ n ≤ 18446744073709551615 ∧ Hid (dv k ∣ m * n - 1) ∧ wr = w)
    (fun _ i _ => 5 - (intOf i).toNat)
  case atStart => exact ⟨0, m, by omega, rfl, rfl, h0, h1, hS, rfl⟩
  case round =>
    obtain ⟨k, n, hk, rfl, rfl, n0, n1, hD, rfl⟩ := hrel
    by_cases hlt : k < 5
    · have hn := veil (dv_step hlt hD.out)
      obtain ⟨y, hy⟩ : ∃ y, y = n * ((2 - m * n % 18446744073709551616) % 18446744073709551616) % 18446744073709551616 := ⟨_, rfl⟩
      rw [← hy] at hn
      have y0 : 0 ≤ y := by omega
      have y1 : y ≤ 18446744073709551615 := by omega
      have hY := veil hy
      clear hy
      go_wp2
      go_roundw
      case rel => exact ⟨k + 1, y, by omega, by go_num, by simp only [IntKind.wrap_u64]; rw [hY.out], y0, y1, hn, trivial⟩
      case measure => simp [intOf]; omega
    · obtain rfl : k = 5 := by omega
      go_wp2
      go_ret
      exact ⟨n, n0, n1, hD.out, rfl, rfl⟩
end Go.Proofs.Ytkfomfpeangcdaa
