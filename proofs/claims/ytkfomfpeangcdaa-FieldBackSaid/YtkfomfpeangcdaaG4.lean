/-
  clapperref02.Sub: the document's difference modulo a number.
-/
import Derived.Test.YtkfomfpeangcdaaG3
namespace Go.Proofs.Ytkfomfpeangcdaa
open Go.RowKit

theorem keep_alloc {wz W : World} (o : Obj) (h : (∀ b o, b < wz.heap.size → W.cell? ⟨b, o, none⟩ = wz.cell? ⟨b, o, none⟩) ∧ Below wz.heap.size wz W) :
    (∀ b i, b < wz.heap.size → (W.alloc o).cell? ⟨b, i, none⟩ = wz.cell? ⟨b, i, none⟩) ∧ Below wz.heap.size wz (W.alloc o) :=
  keep_old (w' := W.alloc o) ((Below.refl _ _).alloc (Nat.le_refl _) o) h
theorem keep_fresh {wz : World} (o : Obj) : (∀ b i, b < wz.heap.size → (wz.alloc o).drew.cell? ⟨b, i, none⟩ = wz.cell? ⟨b, i, none⟩) ∧ Below wz.heap.size wz (wz.alloc o).drew :=
  keep_alloc o (keep_drew wz)
theorem keep_swap {wz W : World} {o o' : Obj} (h : (∀ b i, b < wz.heap.size → (W.alloc o).cell? ⟨b, i, none⟩ = wz.cell? ⟨b, i, none⟩) ∧ Below wz.heap.size wz (W.alloc o)) (hs : wz.heap.size ≤ W.heap.size) :
    (∀ b i, b < wz.heap.size → (W.alloc o').cell? ⟨b, i, none⟩ = wz.cell? ⟨b, i, none⟩) ∧ Below wz.heap.size wz (W.alloc o') := by
  have e : ∀ b, b < wz.heap.size → (W.alloc o').heap[b]? = (W.alloc o).heap[b]? := fun b hb => (Below.heap_alloc _ _ _ (by omega)).trans (Below.heap_alloc _ _ _ (by omega)).symm
  refine ⟨fun b i hb => Eq.trans ?_ (h.1 b i hb), ?_⟩
  · unfold World.cell?; simp only [e b hb]
  · exact ⟨h.2.os, h.2.tape, h.2.output, by have := h.2.size; simp at this ⊢; omega, fun b hb => (e b hb).trans (h.2.block b hb)⟩
theorem below_look {W w' : World} (hb : Below W.heap.size W w') : (∀ b o, b < W.heap.size → w'.cell? ⟨b, o, none⟩ = W.cell? ⟨b, o, none⟩) ∧ (∀ b o, b < W.heap.size → w'.frozen? ⟨b, o, none⟩ = W.frozen? ⟨b, o, none⟩) ∧ (∀ b, b < W.heap.size → b < w'.heap.size) :=
  ⟨fun b o h => hb.cell (p := ⟨b, o, none⟩) h, fun b o h => hb.frozen (p := ⟨b, o, none⟩) h, fun _ h => Nat.lt_of_lt_of_le h hb.size⟩
theorem keep_put4 {wz W : World} {g : Nat} {v0 v1 v2 v3 : Value} (hg : wz.heap.size ≤ g) (h : (∀ b o, b < wz.heap.size → W.cell? ⟨b, o, none⟩ = wz.cell? ⟨b, o, none⟩) ∧ Below wz.heap.size wz W) :
    (∀ b o, b < wz.heap.size → ((((W.setCell ⟨g, 0, none⟩ v0).setCell ⟨g, 1, none⟩ v1).setCell ⟨g, 2, none⟩ v2).setCell ⟨g, 3, none⟩ v3).cell? ⟨b, o, none⟩ = wz.cell? ⟨b, o, none⟩) ∧ Below wz.heap.size wz ((((W.setCell ⟨g, 0, none⟩ v0).setCell ⟨g, 1, none⟩ v1).setCell ⟨g, 2, none⟩ v2).setCell ⟨g, 3, none⟩ v3) :=
  ⟨fun b o hlt => (Below.cell (below_put4 (Below.refl wz.heap.size W) hg v0 v1 v2 v3) (p := ⟨b, o, none⟩) hlt).trans (h.1 b o hlt), below_put4 h.2 hg v0 v1 v2 v3⟩

set_option maxHeartbeats 20000000 in
theorem gsub_lo (X Y M D S : Nat) (hX : X < top) (hY : Y < top) (hM : M < top) (hl : decide (X < Y) = true) (hD : (X + top - Y) % top = D) (hS : (D + M) % top = S) (w : World) :
    Calls Try.prog 20 #[.agg #[.int .u64 (wd (X) 0), .int .u64 (wd (X) 1), .int .u64 (wd (X) 2), .int .u64 (wd (X) 3)], .agg #[.int .u64 (wd (Y) 0), .int .u64 (wd (Y) 1), .int .u64 (wd (Y) 2), .int .u64 (wd (Y) 3)], .agg #[.int .u64 (wd (M) 0), .int .u64 (wd (M) 1), .int .u64 (wd (M) 2), .int .u64 (wd (M) 3)]] w fun e w' => e = .returned (.agg #[.int .u64 (wd (S) 0), .int .u64 (wd (S) 1), .int .u64 (wd (S) 2), .int .u64 (wd (S) 3)]) ∧ Below w.heap.size w w' := by
  have HL := veil hl
  have HD := veil hD
  have hDt : D < top := by rw [← hD]; exact Nat.mod_lt _ top_pos
  have HS := veil hS
  clear hS
  clear hl hD
  have hX0 : ((((w.alloc (.cells #[.int .u64 (wd (X) 0), .int .u64 (wd (X) 1), .int .u64 (wd (X) 2), .int .u64 (wd (X) 3)] 24)).alloc (.cells #[.int .u64 (wd (Y) 0), .int .u64 (wd (Y) 1), .int .u64 (wd (Y) 2), .int .u64 (wd (Y) 3)] 24)).alloc (.cells #[.int .u64 (wd (M) 0), .int .u64 (wd (M) 1), .int .u64 (wd (M) 2), .int .u64 (wd (M) 3)] 24)).alloc (.cells #[.int .u64 0, .int .u64 0, .int .u64 0, .int .u64 0] 24)).rowIs w.heap.size 24 4 (fun j => .int .u64 (wd X j)) := (((row_new (n := 4) (by simp) rfl (arr4 fun j => .int .u64 (wd X j))).alloc _).alloc _).alloc _
  have hY0 : ((((w.alloc (.cells #[.int .u64 (wd (X) 0), .int .u64 (wd (X) 1), .int .u64 (wd (X) 2), .int .u64 (wd (X) 3)] 24)).alloc (.cells #[.int .u64 (wd (Y) 0), .int .u64 (wd (Y) 1), .int .u64 (wd (Y) 2), .int .u64 (wd (Y) 3)] 24)).alloc (.cells #[.int .u64 (wd (M) 0), .int .u64 (wd (M) 1), .int .u64 (wd (M) 2), .int .u64 (wd (M) 3)] 24)).alloc (.cells #[.int .u64 0, .int .u64 0, .int .u64 0, .int .u64 0] 24)).rowIs (w.heap.size + 1) 24 4 (fun j => .int .u64 (wd Y j)) := ((row_new (n := 4) (by simp) rfl (arr4 fun j => .int .u64 (wd Y j))).alloc _).alloc _
  have hM0 : ((((w.alloc (.cells #[.int .u64 (wd (X) 0), .int .u64 (wd (X) 1), .int .u64 (wd (X) 2), .int .u64 (wd (X) 3)] 24)).alloc (.cells #[.int .u64 (wd (Y) 0), .int .u64 (wd (Y) 1), .int .u64 (wd (Y) 2), .int .u64 (wd (Y) 3)] 24)).alloc (.cells #[.int .u64 (wd (M) 0), .int .u64 (wd (M) 1), .int .u64 (wd (M) 2), .int .u64 (wd (M) 3)] 24)).alloc (.cells #[.int .u64 0, .int .u64 0, .int .u64 0, .int .u64 0] 24)).rowIs (w.heap.size + 1 + 1) 24 4 (fun j => .int .u64 (wd M j)) := (row_new (n := 4) (by simp) rfl (arr4 fun j => .int .u64 (wd M j))).alloc _
  have hZ0 : ((((w.alloc (.cells #[.int .u64 (wd (X) 0), .int .u64 (wd (X) 1), .int .u64 (wd (X) 2), .int .u64 (wd (X) 3)] 24)).alloc (.cells #[.int .u64 (wd (Y) 0), .int .u64 (wd (Y) 1), .int .u64 (wd (Y) 2), .int .u64 (wd (Y) 3)] 24)).alloc (.cells #[.int .u64 (wd (M) 0), .int .u64 (wd (M) 1), .int .u64 (wd (M) 2), .int .u64 (wd (M) 3)] 24)).alloc (.cells #[.int .u64 0, .int .u64 0, .int .u64 0, .int .u64 0] 24)).rowIs (w.heap.size + 1 + 1 + 1) 24 4 (fun _ => .int .u64 0) := row_new (n := 4) (by simp) rfl (arr4 fun _ => .int .u64 0)
  have hB0 : Below w.heap.size w ((((w.alloc (.cells #[.int .u64 (wd (X) 0), .int .u64 (wd (X) 1), .int .u64 (wd (X) 2), .int .u64 (wd (X) 3)] 24)).alloc (.cells #[.int .u64 (wd (Y) 0), .int .u64 (wd (Y) 1), .int .u64 (wd (Y) 2), .int .u64 (wd (Y) 3)] 24)).alloc (.cells #[.int .u64 (wd (M) 0), .int .u64 (wd (M) 1), .int .u64 (wd (M) 2), .int .u64 (wd (M) 3)] 24)).alloc (.cells #[.int .u64 0, .int .u64 0, .int .u64 0, .int .u64 0] 24)) := ((((Below.refl _ _).alloc (by simp) _).alloc (by simp) _).alloc (by simp; omega) _).alloc (by simp; omega) _
  go_enter Try.func20, Try.ntmps20
  obtain ⟨a0, a1, a2, a3⟩ := row_c4 hX0
  obtain ⟨b0, b1, b2, b3⟩ := row_c4 hY0
  go_wp2_with fail
  refine (less_is X Y true HL.out hX hY _).mono ?_
  rintro e w1 ⟨rfl, hb1⟩
  clear a0 a1 a2 a3 b0 b1 b2 b3
  have hX1 := row_below hX0 hb1 hX0.lt
  have hY1 := row_below hY0 hb1 hY0.lt
  have hM1 := row_below hM0 hb1 hM0.lt
  have hZ1 := row_below hZ0 hb1 hZ0.lt
  have hB1 := hB0.trans (hb1.mono hB0.size)
  clear hX0 hY0 hM0 hZ0 hB0 hb1
  obtain ⟨a0, a1, a2, a3⟩ := row_c4 hX1
  obtain ⟨b0, b1, b2, b3⟩ := row_c4 hY1
  obtain ⟨m0, m1, m2, m3⟩ := row_c4 hM1
  go_wp2_with fail
  have z1 := hX1.lt
  have z2 := hY1.lt
  have z3 := hM1.lt
  have k1 := fun W => minus_is X Y D HD.out hX hY W
  have k2 := fun W => plus_is D M S _ HS.out rfl hDt hM W
  clear hX1 hY1 hM1
  go_region_held3 (fun w' => (∀ b o, b < w1.heap.size → w'.cell? ⟨b, o, none⟩ = w1.cell? ⟨b, o, none⟩) ∧ Below w1.heap.size w1 w')
    (first
      | with_reducible exact keep_drew _
      | with_reducible exact keep_fresh _
      | with_reducible exact keep_alloc _ (by assumption)
      | ((with_reducible refine keep_swap (by assumption) ?_); first | exact Nat.le_refl _ | exact hbm.size | exact Nat.le_trans hbm.size hbp.size)
      | ((with_reducible refine keep_put4 ?_ (by assumption)); first | exact Nat.le_refl _ | exact hbm.size | exact Nat.le_trans hbm.size hbp.size)
      | with_reducible exact keep_old (by assumption) (by assumption)
      | fail "no arm")
    (first
      | (go_at_call 36; refine (k1 _).mono ?_; rintro e wm ⟨rfl, hbm⟩; obtain ⟨hmc, hmf, hml⟩ := below_look hbm)
      | (go_at_call 35; refine (k2 _).mono ?_; rintro e wp ⟨rfl, hbp⟩; obtain ⟨hpc, hpf, hpl⟩ := below_look hbp))
  all_goals rename (_ ∧ Below w1.heap.size w1 _) => hHeld
  · have hT : (wp.alloc (.cells #[.int .u64 (wd (S) 0), .int .u64 (wd (S) 1), .int .u64 (wd (S) 2), .int .u64 (wd (S) 3)] 24)).rowIs wp.heap.size 24 4 (fun j => .int .u64 (wd S j)) := row_new (n := 4) rfl rfl (arr4 fun j => .int .u64 (wd S j))
    have hZz := row_below hZ1 hHeld.2 hZ1.lt
    have hBz := hB1.trans (hHeld.2.mono hB1.size)
    clear hHeld
    generalize wp.alloc (.cells #[.int .u64 (wd (S) 0), .int .u64 (wd (S) 1), .int .u64 (wd (S) 2), .int .u64 (wd (S) 3)] 24) = wz at *
    obtain ⟨p0, p1, p2, p3⟩ := row_c4 hT
    obtain ⟨d0, d1, d2, d3⟩ := row_c4 hZz
    obtain ⟨f0, f1, f2, f3⟩ := row_f4 hZz
    go_wp2
    refine bodyPost_ret (results_cell_row rfl _ _ (w.heap.size + 1 + 1 + 1) 24 #[.int .u64 (wd (S) 0), .int .u64 (wd (S) 1), .int .u64 (wd (S) 2), .int .u64 (wd (S) 3)] (0, 0) _ rfl (blk4 (put4 hZz fun j => .int .u64 (wd S j))) Try.underlying24 rfl (by kernel_rfl)) rfl ⟨rfl, below_put4 hBz (by omega) _ _ _ _⟩
  · have hT : ((((wp.setCell ⟨wm.heap.size, 0, none⟩ (.int .u64 (wd S 0))).setCell ⟨wm.heap.size, 1, none⟩ (.int .u64 (wd S 1))).setCell ⟨wm.heap.size, 2, none⟩ (.int .u64 (wd S 2))).setCell ⟨wm.heap.size, 3, none⟩ (.int .u64 (wd S 3))).rowIs wm.heap.size 24 4 (fun j => .int .u64 (wd S j)) := put4 (row_below (row_new (n := 4) (f := fun _ => .int .u64 0) rfl rfl (arr4 fun _ => .int .u64 0)) hbp (by simp)) fun j => .int .u64 (wd S j)
    have hZz := row_below hZ1 hHeld.2 hZ1.lt
    have hBz := hB1.trans (hHeld.2.mono hB1.size)
    clear hHeld
    generalize (((wp.setCell ⟨wm.heap.size, 0, none⟩ (.int .u64 (wd S 0))).setCell ⟨wm.heap.size, 1, none⟩ (.int .u64 (wd S 1))).setCell ⟨wm.heap.size, 2, none⟩ (.int .u64 (wd S 2))).setCell ⟨wm.heap.size, 3, none⟩ (.int .u64 (wd S 3)) = wz at *
    obtain ⟨p0, p1, p2, p3⟩ := row_c4 hT
    obtain ⟨d0, d1, d2, d3⟩ := row_c4 hZz
    obtain ⟨f0, f1, f2, f3⟩ := row_f4 hZz
    go_wp2
    refine bodyPost_ret (results_cell_row rfl _ _ (w.heap.size + 1 + 1 + 1) 24 #[.int .u64 (wd (S) 0), .int .u64 (wd (S) 1), .int .u64 (wd (S) 2), .int .u64 (wd (S) 3)] (0, 0) _ rfl (blk4 (put4 hZz fun j => .int .u64 (wd S j))) Try.underlying24 rfl (by kernel_rfl)) rfl ⟨rfl, below_put4 hBz (by omega) _ _ _ _⟩
  · have hT : ((((wp.setCell ⟨w1.heap.size, 0, none⟩ (.int .u64 (wd S 0))).setCell ⟨w1.heap.size, 1, none⟩ (.int .u64 (wd S 1))).setCell ⟨w1.heap.size, 2, none⟩ (.int .u64 (wd S 2))).setCell ⟨w1.heap.size, 3, none⟩ (.int .u64 (wd S 3))).rowIs w1.heap.size 24 4 (fun j => .int .u64 (wd S j)) := put4 (row_below (row_below ((row_new (n := 4) (f := fun _ => .int .u64 0) rfl rfl (arr4 fun _ => .int .u64 0)).drew) hbm (by simp)) hbp (Nat.lt_of_lt_of_le (by simp) hbm.size)) fun j => .int .u64 (wd S j)
    have hZz := row_below hZ1 hHeld.2 hZ1.lt
    have hBz := hB1.trans (hHeld.2.mono hB1.size)
    clear hHeld
    generalize (((wp.setCell ⟨w1.heap.size, 0, none⟩ (.int .u64 (wd S 0))).setCell ⟨w1.heap.size, 1, none⟩ (.int .u64 (wd S 1))).setCell ⟨w1.heap.size, 2, none⟩ (.int .u64 (wd S 2))).setCell ⟨w1.heap.size, 3, none⟩ (.int .u64 (wd S 3)) = wz at *
    obtain ⟨p0, p1, p2, p3⟩ := row_c4 hT
    obtain ⟨d0, d1, d2, d3⟩ := row_c4 hZz
    obtain ⟨f0, f1, f2, f3⟩ := row_f4 hZz
    go_wp2
    refine bodyPost_ret (results_cell_row rfl _ _ (w.heap.size + 1 + 1 + 1) 24 #[.int .u64 (wd (S) 0), .int .u64 (wd (S) 1), .int .u64 (wd (S) 2), .int .u64 (wd (S) 3)] (0, 0) _ rfl (blk4 (put4 hZz fun j => .int .u64 (wd S j))) Try.underlying24 rfl (by kernel_rfl)) rfl ⟨rfl, below_put4 hBz (by omega) _ _ _ _⟩

set_option maxHeartbeats 20000000 in
theorem gsub_hi (X Y M D : Nat) (hX : X < top) (hY : Y < top) (hl : decide (X < Y) = false) (hD : (X + top - Y) % top = D) (w : World) :
    Calls Try.prog 20 #[.agg #[.int .u64 (wd (X) 0), .int .u64 (wd (X) 1), .int .u64 (wd (X) 2), .int .u64 (wd (X) 3)], .agg #[.int .u64 (wd (Y) 0), .int .u64 (wd (Y) 1), .int .u64 (wd (Y) 2), .int .u64 (wd (Y) 3)], .agg #[.int .u64 (wd (M) 0), .int .u64 (wd (M) 1), .int .u64 (wd (M) 2), .int .u64 (wd (M) 3)]] w fun e w' => e = .returned (.agg #[.int .u64 (wd (D) 0), .int .u64 (wd (D) 1), .int .u64 (wd (D) 2), .int .u64 (wd (D) 3)]) ∧ Below w.heap.size w w' := by
  have HL := veil hl
  have HD := veil hD
  clear hl hD
  have hX0 : ((((w.alloc (.cells #[.int .u64 (wd (X) 0), .int .u64 (wd (X) 1), .int .u64 (wd (X) 2), .int .u64 (wd (X) 3)] 24)).alloc (.cells #[.int .u64 (wd (Y) 0), .int .u64 (wd (Y) 1), .int .u64 (wd (Y) 2), .int .u64 (wd (Y) 3)] 24)).alloc (.cells #[.int .u64 (wd (M) 0), .int .u64 (wd (M) 1), .int .u64 (wd (M) 2), .int .u64 (wd (M) 3)] 24)).alloc (.cells #[.int .u64 0, .int .u64 0, .int .u64 0, .int .u64 0] 24)).rowIs w.heap.size 24 4 (fun j => .int .u64 (wd X j)) := (((row_new (n := 4) (by simp) rfl (arr4 fun j => .int .u64 (wd X j))).alloc _).alloc _).alloc _
  have hY0 : ((((w.alloc (.cells #[.int .u64 (wd (X) 0), .int .u64 (wd (X) 1), .int .u64 (wd (X) 2), .int .u64 (wd (X) 3)] 24)).alloc (.cells #[.int .u64 (wd (Y) 0), .int .u64 (wd (Y) 1), .int .u64 (wd (Y) 2), .int .u64 (wd (Y) 3)] 24)).alloc (.cells #[.int .u64 (wd (M) 0), .int .u64 (wd (M) 1), .int .u64 (wd (M) 2), .int .u64 (wd (M) 3)] 24)).alloc (.cells #[.int .u64 0, .int .u64 0, .int .u64 0, .int .u64 0] 24)).rowIs (w.heap.size + 1) 24 4 (fun j => .int .u64 (wd Y j)) := ((row_new (n := 4) (by simp) rfl (arr4 fun j => .int .u64 (wd Y j))).alloc _).alloc _
  have hM0 : ((((w.alloc (.cells #[.int .u64 (wd (X) 0), .int .u64 (wd (X) 1), .int .u64 (wd (X) 2), .int .u64 (wd (X) 3)] 24)).alloc (.cells #[.int .u64 (wd (Y) 0), .int .u64 (wd (Y) 1), .int .u64 (wd (Y) 2), .int .u64 (wd (Y) 3)] 24)).alloc (.cells #[.int .u64 (wd (M) 0), .int .u64 (wd (M) 1), .int .u64 (wd (M) 2), .int .u64 (wd (M) 3)] 24)).alloc (.cells #[.int .u64 0, .int .u64 0, .int .u64 0, .int .u64 0] 24)).rowIs (w.heap.size + 1 + 1) 24 4 (fun j => .int .u64 (wd M j)) := (row_new (n := 4) (by simp) rfl (arr4 fun j => .int .u64 (wd M j))).alloc _
  have hZ0 : ((((w.alloc (.cells #[.int .u64 (wd (X) 0), .int .u64 (wd (X) 1), .int .u64 (wd (X) 2), .int .u64 (wd (X) 3)] 24)).alloc (.cells #[.int .u64 (wd (Y) 0), .int .u64 (wd (Y) 1), .int .u64 (wd (Y) 2), .int .u64 (wd (Y) 3)] 24)).alloc (.cells #[.int .u64 (wd (M) 0), .int .u64 (wd (M) 1), .int .u64 (wd (M) 2), .int .u64 (wd (M) 3)] 24)).alloc (.cells #[.int .u64 0, .int .u64 0, .int .u64 0, .int .u64 0] 24)).rowIs (w.heap.size + 1 + 1 + 1) 24 4 (fun _ => .int .u64 0) := row_new (n := 4) (by simp) rfl (arr4 fun _ => .int .u64 0)
  have hB0 : Below w.heap.size w ((((w.alloc (.cells #[.int .u64 (wd (X) 0), .int .u64 (wd (X) 1), .int .u64 (wd (X) 2), .int .u64 (wd (X) 3)] 24)).alloc (.cells #[.int .u64 (wd (Y) 0), .int .u64 (wd (Y) 1), .int .u64 (wd (Y) 2), .int .u64 (wd (Y) 3)] 24)).alloc (.cells #[.int .u64 (wd (M) 0), .int .u64 (wd (M) 1), .int .u64 (wd (M) 2), .int .u64 (wd (M) 3)] 24)).alloc (.cells #[.int .u64 0, .int .u64 0, .int .u64 0, .int .u64 0] 24)) := ((((Below.refl _ _).alloc (by simp) _).alloc (by simp) _).alloc (by simp; omega) _).alloc (by simp; omega) _
  go_enter Try.func20, Try.ntmps20
  obtain ⟨a0, a1, a2, a3⟩ := row_c4 hX0
  obtain ⟨b0, b1, b2, b3⟩ := row_c4 hY0
  go_wp2_with fail
  refine (less_is X Y false HL.out hX hY _).mono ?_
  rintro e w1 ⟨rfl, hb1⟩
  clear a0 a1 a2 a3 b0 b1 b2 b3
  have hX1 := row_below hX0 hb1 hX0.lt
  have hY1 := row_below hY0 hb1 hY0.lt
  have hM1 := row_below hM0 hb1 hM0.lt
  have hZ1 := row_below hZ0 hb1 hZ0.lt
  have hB1 := hB0.trans (hb1.mono hB0.size)
  clear hX0 hY0 hM0 hZ0 hB0 hb1
  obtain ⟨a0, a1, a2, a3⟩ := row_c4 hX1
  obtain ⟨b0, b1, b2, b3⟩ := row_c4 hY1
  obtain ⟨m0, m1, m2, m3⟩ := row_c4 hM1
  go_wp2_with fail
  refine (minus_is X Y D HD.out hX hY _).mono ?_
  rintro e w3 ⟨rfl, hb3⟩
  have hZz := row_below hZ1 hb3 hZ1.lt
  have hBz := hB1.trans (hb3.mono hB1.size)
  clear a0 a1 a2 a3 b0 b1 b2 b3 hX1 hY1 hM1 hZ1 hB1 hb3 m0 m1 m2 m3
  obtain ⟨d0, d1, d2, d3⟩ := row_c4 hZz
  obtain ⟨f0, f1, f2, f3⟩ := row_f4 hZz
  go_wp2
  refine bodyPost_ret (results_cell_row rfl _ _ (w.heap.size + 1 + 1 + 1) 24 #[.int .u64 (wd (D) 0), .int .u64 (wd (D) 1), .int .u64 (wd (D) 2), .int .u64 (wd (D) 3)] (0, 0) _ rfl (blk4 (put4 hZz fun j => .int .u64 (wd D j))) Try.underlying24 rfl (by kernel_rfl)) rfl ⟨rfl, below_put4 hBz (by omega) _ _ _ _⟩

/-- clapperref02.Sub of two numbers below M. -/
theorem gsub_calls (X Y M : Nat) (hX : X < M) (hY : Y < M) (hM : M < top) (w : World) :
    Calls Try.prog 20 #[.agg #[.int .u64 (wd (X) 0), .int .u64 (wd (X) 1), .int .u64 (wd (X) 2), .int .u64 (wd (X) 3)], .agg #[.int .u64 (wd (Y) 0), .int .u64 (wd (Y) 1), .int .u64 (wd (Y) 2), .int .u64 (wd (Y) 3)], .agg #[.int .u64 (wd (M) 0), .int .u64 (wd (M) 1), .int .u64 (wd (M) 2), .int .u64 (wd (M) 3)]] w fun e w' => e = .returned (.agg #[.int .u64 (wd ((X + M - Y) % M) 0), .int .u64 (wd ((X + M - Y) % M) 1), .int .u64 (wd ((X + M - Y) % M) 2), .int .u64 (wd ((X + M - Y) % M) 3)]) ∧ Below w.heap.size w w' := by
  by_cases h : X < Y
  · exact gsub_lo X Y M _ _ (by omega) (by omega) hM (by simpa using h) rfl (by rw [Nat.mod_eq_of_lt (a := X + top - Y) (by omega), show X + top - Y + M = (X + M - Y) + top by omega, Nat.add_mod_right, Nat.mod_eq_of_lt (by omega), Nat.mod_eq_of_lt (by omega)]) w
  · exact gsub_hi X Y M _ (by omega) (by omega) (by simpa using h) (by rw [show X + top - Y = (X - Y) + top by omega, Nat.add_mod_right, show X + M - Y = (X - Y) + M by omega, Nat.add_mod_right, Nat.mod_eq_of_lt (by omega), Nat.mod_eq_of_lt (by omega)]) w
end Go.Proofs.Ytkfomfpeangcdaa
