/-
  clapperref04.Of: the document's code of any text with any key.
-/
import Derived.Test.YtmgogcoafhompaaDoorMDef
import Derived.Deep.RegionHeld3
namespace Go.Proofs.YtmgogcoafhompaaDoor
open Go.RowKit

/-- What the reference's sum is taken to do. -/
def RSum : Prop := ∀ (A : Option Addr) (n c : Nat) (y : Nat → Nat), (∀ j, y j < 256) → n ≤ 1048576 → ∀ w : World, Src w A n y w.heap.size →
  Calls Tryd.prog 11 #[.slice A n c] w fun e w' => e = .returned (.agg (dgst y n)) ∧ Below w.heap.size w w'

theorem from_row {w : World} {g e n : Nat} {f : Nat → Value} (h : w.rowIs g e n f) : From w (some ⟨g, 0, none⟩) n f := .inr ⟨_, rfl, fun j hj => by rw [Addr.add_mid, Nat.zero_add]; exact h.cell hj⟩
set_option maxRecDepth 100000 in
set_option maxHeartbeats 8000000 in
theorem rmac_calls (RS : RSum) (A B : Option Addr) (n c m d : Nat) (y t : Nat → Nat) (hy : ∀ j, y j < 256) (ht : ∀ j, t j < 256) (hn : n ≤ 100000) (hm : m ≤ 100000) (w : World) (hS : Src w A n y w.heap.size) (hT : Src w B m t w.heap.size) :
    Calls Tryd.prog 7 #[.slice A n c, .slice B m d] w fun e w' => e = .returned (.agg (macD y n t m)) ∧ Below w.heap.size w w' := by
  obtain ⟨i8, hi8, hz0, hz1, hz2⟩ := info_parts infoB3
  have HI := veil (And.intro hi8 (And.intro hz0 (And.intro hz1 hz2)))
  clear hi8 hz0 hz1 hz2
  have HB := veil (show ∀ W : World, Src W A n y W.heap.size → Calls Tryd.prog 12 #[.slice A n c, .int .u8 54] W fun e w' => ∃ g cap, e = .returned (.slice (some ⟨g, 0, none⟩) 64 cap) ∧ Own w' W.heap.size 5 (.slice (some ⟨g, 0, none⟩) 64 cap) 64 (kx (kb y n) 54) ∧ Below W.heap.size W w' from
    fun W h => block_calls A n c y hy (by omega) 54 (by decide) W h (RS A n c y hy (by omega) W h))
  have HC := veil (show ∀ W : World, Src W A n y W.heap.size → Calls Tryd.prog 12 #[.slice A n c, .int .u8 92] W fun e w' => ∃ g cap, e = .returned (.slice (some ⟨g, 0, none⟩) 64 cap) ∧ Own w' W.heap.size 5 (.slice (some ⟨g, 0, none⟩) 64 cap) 64 (kx (kb y n) 92) ∧ Below W.heap.size W w' from
    fun W h => block_calls A n c y hy (by omega) 92 (by decide) W h (RS A n c y hy (by omega) W h))
  have HIn := veil (fun (C : Option Addr) (e : Nat) (W : World) (h : Src W C (64 + m) (macIn y n t) W.heap.size) => RS C (64 + m) e _ (macIn_lt hy ht n) (by omega) W h)
  have HOut := veil (fun (C : Option Addr) (e : Nat) (W : World) (h : Src W C 96 (macOut y n t m) W.heap.size) => RS C 96 e _ (macOut_lt hy n t m) (by omega) W h)
  have HS := veil (And.intro hS hT)
  clear RS hy ht hS hT
  go_enter Tryd.func7, Tryd.ntmps7
  go_upto_region 1 with (fail)
  rw [zeros32]
  have hR : (w.alloc (.cells (arrOf 32 (fun _ => .int .u8 0)) 26)).rowIs w.heap.size 26 32 (fun _ => .int .u8 0) := row_made w 32 26 _ rfl
  have hB : Below w.heap.size w (w.alloc (.cells (arrOf 32 (fun _ => .int .u8 0)) 26)) := (Below.refl _ _).alloc (Nat.le_refl _) _
  obtain ⟨gR, hgR⟩ : ∃ gR, gR = w.heap.size := ⟨_, rfl⟩
  rw [← hgR] at hR
  generalize w.alloc (.cells (arrOf 32 (fun _ => .int .u8 0)) 26) = w1 at *
  have hS1 := src_now HS.out.1 hB hB.size
  have hB1 := veil hB
  clear hB
  obtain ⟨D, hD⟩ : ∃ D, D = dgst (macIn y n t) (64 + m) := ⟨_, rfl⟩
  have HSZ := veil (And.intro (dgst_size (macIn y n t) (64 + m)) (And.intro (show (dgst (macIn y n t) (64 + m)).all (·.oneCell') = true from arrOf_one fun _ _ => rfl) (show (Tryd.prog.info? 26).map (·.size) = some (dgst (macIn y n t) (64 + m)).size by rw [dgst_size]; exact infoD)))
  rw [← hD] at HSZ HIn
  have HD := veil hD
  have hRl := hR.lt
  have HRw := veil (And.intro hR (And.intro hgR hS1))
  clear hD hR hS1
  rw [← hgR]
  clear hgR
  go_upto_region 2 with (first
    | ((with_reducible refine (HB.out w1 ?hs).mono ?_); (· exact HRw.out.2.2); rintro e w2 ⟨g2, c2, rfl, hO2, hb2⟩)
    | ((with_reducible refine at_slot 9 ?_); refine wpList_append_from _ rfl _ _ 22 rfl w1.heap.size 5 i8 (.int .u8 0) 1 Tryd.underlying22 HI.out.1 HI.out.2.1 HI.out.2.2.1 HI.out.2.2.2 rfl (.slice (some ⟨g2, 0, none⟩) 64 c2) 64 _ rfl hO2 B m d rfl _ (from_now HS.out.2 (hB1.out.trans (hb2.mono hB1.out.size))) (fun _ => rfl) (by unfold maxLen; omega) (by omega) hb2.size ?_; intro v3 w3 hO3 hg3 hat3; replace hO3 := in_cells hO3; obtain ⟨g3, c3, rfl, -, -, -⟩ := hO3.pre (by omega); have hs3 : Src w3 (some ⟨g3, 0, none⟩) (64 + m) (macIn y n t) w3.heap.size := own_src hO3)
    | ((with_reducible refine (HIn.out (some ⟨g3, 0, none⟩) c3 w3 hs3).mono ?_); rintro e w4 ⟨rfl, hb4⟩)
    | ((with_reducible refine at_none ?_); refine wpList_store_row rfl 26 _ _ rfl w4.heap.size D rfl rfl 26 _ (heap_alloc_last w4 _) HSZ.out.2.2 (by rw [HSZ.out.1]; rfl) HSZ.out.2.1 ?_; rw [World.setRow_alloc_new]))
  have hb3 : Below w1.heap.size w1 w3 := hb2.grown hg3 hb2.size (fun k e => (hO2.lt e).1)
  have hB4 := hb3.trans (hb4.mono hb3.size)
  have hR5 := (row_below HRw.out.1 hB4 HRw.out.1.lt).alloc (.cells D 26)
  have hB5 := (hB1.out.trans (hB4.mono hB1.out.size)).alloc (hB1.out.trans (hB4.mono hB1.out.size)).size (.cells D 26)
  have hD5 : (w4.alloc (.cells D 26)).rowIs w4.heap.size 26 32 (fun j => .int .u8 (dByte (shaSt (macIn y n t) (64 + m)) j : Nat)) := by rw [HD.out]; exact row_made w4 32 26 _ rfl
  have HG := veil HRw.out.2.1
  have hlt5 : gR < w4.heap.size := by have := hB4.size; omega
  have hlt6 : w4.heap.size < (w4.alloc (.cells D 26)).heap.size := by simp
  generalize w4.alloc (.cells D 26) = w5 at *
  generalize hg5 : w4.heap.size = g5 at *
  clear hb2 hO2 hO3 hg3 hat3 hs3 hb3 hb4 hB4 HB HIn HRw hg5
  obtain ⟨F, hF⟩ : ∃ F, F = macD y n t m := ⟨_, rfl⟩
  have HF := veil (show F.size = 32 ∧ F.all (·.oneCell') = true ∧ (Tryd.prog.info? 26).map (·.size) = some F.size from by
    rw [hF]; exact ⟨dgst_size _ _, arrOf_one fun _ _ => rfl, by show _ = some (dgst _ _).size; rw [dgst_size]; exact infoD⟩)
  have HS5 := veil (src_now HS.out.1 hB5 hB5.size)
  have HN := veil (And.intro hR5 hB5)
  have HC5 := veil (HC.out w5.drew HS5.out)
  have HOut' := veil (show ∀ (C : Option Addr) (e : Nat) (W : World), Src W C 96 (macOut y n t m) W.heap.size → Calls Tryd.prog 11 #[.slice C 96 e] W fun e W' => e = .returned (.agg F) ∧ Below W.heap.size W W' from by rw [hF]; exact HOut.out)
  have hoF : ∀ v ∈ F.toList, v.oneCell' = true := fun v hv => (Array.all_eq_true_iff_forall_mem.1 HF.out.2.1) v (by simpa using hv)
  have hiF : (Tryd.prog.info? 26).map (·.size) = some F.toList.length := by rw [Array.length_toList]; exact HF.out.2.2
  have HFF := veil hF
  have HD5 := veil hD5
  have hS0 : But gR w5 w5 := But.refl _ _
  clear hF hR5 hB5 hD5 HC HOut HS HD HSZ
  go_region_held3 (fun w' => But gR w5 w')
    (first
      | with_reducible assumption
      | exact hS0
      | exact hS0.drew
      | exact hS0.drew.below hb6
      | exact hS0.drew.below hb7
      | exact hS0.drew.below hb9
      | exact But.setCells _ 0 _ (hS0.drew.below hb9))
    (first
      | (go_at_call 12; refine HC5.out.mono ?_; rintro e w6 ⟨g6, c6, rfl, hO6, hb6⟩)
      | ((with_reducible refine at_slotR 14 ?_); refine step_append_from _ rfl _ _ 22 rfl w5.heap.size 5 i8 (.int .u8 0) 1 Tryd.underlying22 HI.out.1 HI.out.2.1 HI.out.2.2.1 HI.out.2.2.2 rfl (.slice (some ⟨g6, 0, none⟩) 64 c6) 64 _ rfl hO6 (some ⟨g5, 0, none⟩) 32 32 rfl _ (from_row (row_below (row_drewN HD5.out 1) hb6 hlt6)) (fun _ => rfl) (by unfold maxLen; omega) (by omega) hb6.size ?_; intro v7 w7 hO7 hg7 _ _; have hb7 := hb6.grown hg7 hb6.size (fun k e => (hO6.lt e).1); replace hO7 := in_cells hO7; obtain ⟨g7, c7, rfl, -, -, -⟩ := hO7.pre (by omega); have hs7 : Src w7 (some ⟨g7, 0, none⟩) 96 (macOut y n t m) w7.heap.size := own_src hO7; clear hg7)
      | (go_at_call 11; (with_reducible refine (HOut'.out (some ⟨g7, 0, none⟩) c7 w7 hs7).mono ?_); rintro e w8 ⟨rfl, hb8⟩; have hb9 := hb7.trans (hb8.mono hb7.size); have hN' := veil (row_below (row_drewN HN.out.1 1) hb9 (Nat.lt_trans hlt5 hlt6)); have hth := there_row hN'.out (show F.toList.length = 32 by rw [Array.length_toList]; exact HF.out.1)))
  rename (But _ _ _) => hHeld
  clear hS0 hoF hiF hth
  go_wp2
  exact bodyPost_ret (results_cell_row rfl _ _ gR 26 F (0, 0) _ rfl (blk_setCells hN'.out HF.out.1) Tryd.underlying26 rfl HF.out.2.2) rfl ⟨by rw [HFF.out], HN.out.2.trans (But.new hHeld (B := w.heap.size) (Nat.le_of_eq HG.out.symm) HN.out.2.size)⟩
end Go.Proofs.YtmgogcoafhompaaDoor
