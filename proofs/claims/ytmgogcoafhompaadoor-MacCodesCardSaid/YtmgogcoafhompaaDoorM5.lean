/-
  mac.Of: the code of a text in parts.
-/
import Derived.Test.YtmgogcoafhompaaDoorMDef
import Derived.Test.YtmgogcoafhompaaDoorM3
import Derived.Test.YtmgogcoafhompaaDoorM4
import Derived.Deep.RegionHeld3
namespace Go.Proofs.YtmgogcoafhompaaDoor
open Go.RowKit

theorem text_one (t : Nat → Nat) : textN (fun _ => 32) (fun _ => t) 1 = t := cat_none _ t
/-- One part of 32 bytes in a block of its own. -/
theorem parts_one {W : World} {b g : Nat} {t : Nat → Nat} (ht : ∀ j, t j < 256) (hb : W.cell? ⟨b, 0, none⟩ = some (.slice (some ⟨g, 0, none⟩) 32 32)) (hg : g < W.heap.size) (hc : ∀ j, j < 32 → W.cell? ⟨g, j, none⟩ = some (.int .u8 (t j : Nat))) :
    Parts3 W (some ⟨b, 0, none⟩) 1 (fun _ => some ⟨g, 0, none⟩) (fun _ => 32) (fun _ => 32) (fun _ => t) where
  row := .inr ⟨b, 0, rfl, World.block_lt_of_cell? W _ hb, fun r hr => by obtain rfl : r = 0 := by omega
                                                                         exact hb⟩
  src := fun r hr => .inr ⟨g, 0, rfl, hg, by omega, fun j hj => by rw [Nat.zero_add]; exact hc j hj⟩
  cap := fun _ _ => Nat.le_refl _
  lt := fun _ => ht
set_option maxRecDepth 100000 in
set_option maxHeartbeats 8000000 in
theorem ofmac_calls (K : Option Addr) (n c : Nat) (y : Nat → Nat) (hy : ∀ j, y j < 256) (hnc : n ≤ c) (hn : n ≤ 1048576) (AL : Option Addr) (nl cl : Nat) (A : Nat → Option Addr) (L C : Nat → Nat) (Y : Nat → Nat → Nat) (hnl : nl ≤ 100000) (hT : lenN L nl ≤ 100000)
    (w : World) (hK : KT w) (hS : Src w K n y w.heap.size) (hP : Parts3 w AL nl A L C Y) :
    Calls Tryd.prog 6 #[.slice K n c, .slice AL nl cl] w fun e w' => e = .returned (.agg (macD y n (textN L Y nl) (lenN L nl))) ∧ Below w.heap.size w w' := by
  have HK := veil hK
  have HS := veil hS
  have HY := veil hy
  have HP := veil hP
  have HT := veil (And.intro hT hnl)
  have hg0 := hK.lt
  clear hK hS hy hP hT hnl
  go_enter Tryd.func6, Tryd.ntmps6
  go_upto_region 1 with (fail)
  rw [zeros32]
  have hR1 := row_made w 32 26 (fun _ => Value.int .u8 0) rfl
  have hb1 : Below w.heap.size w (w.alloc (.cells (arrOf 32 (fun _ => .int .u8 0)) 26)) := (Below.refl _ _).alloc (Nat.le_refl _) _
  generalize w.alloc (.cells (arrOf 32 (fun _ => .int .u8 0)) 26) = w1 at *
  go_wp2_with fail
  refine (blockOf_calls K n c y HY.out hnc hn w1 (kt_now HK.out hb1) (src_now HS.out hb1 hb1.size)).mono ?_
  rintro e w2 ⟨rfl, hb2⟩
  have hR2 := row_below hR1 hb2 hR1.lt
  have hB2 := hb1.trans (hb2.mono hb1.size)
  have hlt2 := hR2.lt
  obtain ⟨E, hE⟩ : ∃ E, E = arrOf 64 (fun j => Value.int .u8 (kb y n j : Nat)) := ⟨_, rfl⟩
  have hEs : E.size = 64 := by rw [hE, arrOf_size]
  have hE1 : E.all (·.oneCell') = true := by rw [hE]; exact arrOf_one fun _ _ => rfl
  have HEI := veil (And.intro hEs (And.intro hE1 (show (Tryd.prog.info? 32).map (·.size) = some E.size by rw [hEs]; exact info64)))
  rw [← hE]
  have HE := veil hE
  clear hE hEs hE1 hR1 hb1 hb2
  have HM1 := veil (fun W (hk : KT W) (hp : Parts3 W AL nl A L C Y) => masked_calls (kb y n) (kb_lt HY.out n) 54 (by decide) AL nl cl A L C Y HT.out.2 HT.out.1 W hk hp)
  have HM2 := veil (fun W g d (t : Nat → Nat) (ht : ∀ j, t j < 256) (hk : KT W) (hp : Parts3 W (some ⟨g, 0, none⟩) 1 (fun _ => some ⟨d, 0, none⟩) (fun _ => 32) (fun _ => 32) (fun _ => t)) =>
    masked_calls (kb y n) (kb_lt HY.out n) 92 (by decide) (some ⟨g, 0, none⟩) 1 1 (fun _ => some ⟨d, 0, none⟩) (fun _ => 32) (fun _ => 32) (fun _ => t) (by decide) (by decide) W hk hp)
  rw [← HE.out] at HM1 HM2
  go_upto_region 2 with ((with_reducible refine at_none ?_); refine wpList_store_row rfl 32 _ _ rfl w2.heap.size E rfl rfl 32 _ (heap_alloc_last w2 _) HEI.out.2.2 (by rw [HEI.out.1]; rfl) HEI.out.2.1 ?_; rw [World.setRow_alloc_new])
  have hE3 : (w2.alloc (.cells E 32)).heap[w2.heap.size]? = some (.cells E 32 (0, 0)) := heap_alloc_last w2 _
  have hR3 := hR2.alloc (.cells E 32)
  have hB3 := hB2.alloc hB2.size (.cells E 32)
  have hlt3 : w2.heap.size < (w2.alloc (.cells E 32)).heap.size := by simp
  generalize w2.alloc (.cells E 32) = w3 at *
  generalize hg5 : w2.heap.size = g5 at *
  clear hR2 hB2 hg5
  obtain ⟨D, hD⟩ : ∃ D, D = dgst (macIn y n (textN L Y nl)) (64 + lenN L nl) := ⟨_, rfl⟩
  have HZ := veil (And.intro (dgst_size (macIn y n (textN L Y nl)) (64 + lenN L nl)) (And.intro (show (dgst (macIn y n (textN L Y nl)) (64 + lenN L nl)).all (·.oneCell') = true from arrOf_one fun _ _ => rfl) (show (Tryd.prog.info? 26).map (·.size) = some (dgst (macIn y n (textN L Y nl)) (64 + lenN L nl)).size by rw [dgst_size]; exact infoD)))
  have HM1' := veil (show ∀ W, KT W → Parts3 W AL nl A L C Y → Calls Tryd.prog 10 #[.agg E, .int .u8 54, .slice AL nl cl] W fun e W' => e = .returned (.agg D) ∧ Below W.heap.size W W' from by rw [hD]; exact HM1.out)
  rw [← hD] at HZ
  have HD := veil hD
  have HE3 := veil hE3
  have H3 := veil (And.intro hR3 hB3)
  clear hD HM1 hE3 hR3 hB3
  go_upto_region 3 with (first
    | ((with_reducible refine at_slot 9 ?_); refine wpList_load_row rfl 32 _ rfl g5 rfl 32 E (0, 0) _ HE3.out Tryd.underlying32 rfl HEI.out.2.2 ?_)
    | (go_at_call 10; refine (HM1'.out w3 (kt_now HK.out H3.out.2) (HP.out.call H3.out.2)).mono ?_; rintro e w4 ⟨rfl, hb4⟩)
    | ((with_reducible refine at_none ?_); refine wpList_store_row rfl 26 _ _ rfl w4.heap.size D rfl rfl 26 _ (heap_alloc_last w4 _) HZ.out.2.2 (by rw [HZ.out.1]; rfl) HZ.out.2.1 ?_; rw [World.setRow_alloc_new]))
  have hE5 : (w4.alloc (.cells D 26)).heap[g5]? = some (.cells E 32 (0, 0)) := ((Below.heap_alloc _ _ _ (by have := hb4.size; omega)).trans (hb4.block g5 hlt3)).trans HE3.out
  have hR5 := (row_below H3.out.1 hb4 (by omega)).alloc (.cells D 26)
  have hB5 := (H3.out.2.trans (hb4.mono H3.out.2.size)).alloc (H3.out.2.trans (hb4.mono H3.out.2.size)).size (.cells D 26)
  have hD5 : (w4.alloc (.cells D 26)).rowIs w4.heap.size 26 32 (fun j => .int .u8 (dByte (shaSt (macIn y n (textN L Y nl)) (64 + lenN L nl)) j : Nat)) := by rw [HD.out]; exact row_made w4 32 26 _ rfl
  have hlt4 : g5 < w4.heap.size := by have := hb4.size; omega
  have hlt5 : w4.heap.size < (w4.alloc (.cells D 26)).heap.size := by simp
  generalize w4.alloc (.cells D 26) = w5 at *
  generalize hg6 : w4.heap.size = g6 at *
  clear hb4 H3 HE3 HM1' hg6
  obtain ⟨t, ht⟩ : ∃ t, t = fun j => dByte (shaSt (macIn y n (textN L Y nl)) (64 + lenN L nl)) j := ⟨_, rfl⟩
  have hD5 : w5.rowIs g6 26 32 (fun j => .int .u8 (t j : Nat)) := by rw [ht]; exact hD5
  obtain ⟨F, hF⟩ : ∃ F, F = macD y n (textN L Y nl) (lenN L nl) := ⟨_, rfl⟩
  have HF := veil (show F.size = 32 ∧ F.all (·.oneCell') = true ∧ (Tryd.prog.info? 26).map (·.size) = some F.size from by
    rw [hF]; exact ⟨dgst_size _ _, arrOf_one fun _ _ => rfl, by show _ = some (dgst _ _).size; rw [dgst_size]; exact infoD⟩)
  have HM3 := veil (show ∀ W g, KT W → But w.heap.size w5 W → W.cell? ⟨g, 0, none⟩ = some (.slice (some ⟨g6, 0, none⟩) 32 32) → Calls Tryd.prog 10 #[.agg E, .int .u8 92, .slice (some ⟨g, 0, none⟩) 1 1] W fun e W' => e = .returned (.agg F) ∧ Below W.heap.size W W' from fun W g hk hbt hc => by
    have h := HM2.out W g g6 t (fun j => by rw [ht]; exact dByte_lt _ j) hk (parts_one (fun j => by rw [ht]; exact dByte_lt _ j) hc (by have := hbt.size; omega) (fun j hj => (World.cell?_of_block (a := ⟨g6, j, none⟩) (hbt.block g6 hlt5 (by simp; omega))).trans (hD5.cell hj)))
    rw [text_one, ht] at h
    rw [hF]
    exact h)
  have HFF := veil hF
  have hrg : w5.rangeAt g5 0 E.toList := fun j v hv => by
    rw [Nat.zero_add, cell_of_row w5 g5 j E 32 (0, 0) hE5]
    simpa using hv
  have HN := veil hR5
  have hoF : ∀ v ∈ F.toList, v.oneCell' = true := fun v hv => (Array.all_eq_true_iff_forall_mem.1 HF.out.2.1) v (by simpa using hv)
  have hiF : (Tryd.prog.info? 26).map (·.size) = some F.toList.length := by rw [Array.length_toList]; exact HF.out.2.2
  have HK5 := veil (And.intro (kt_now HK.out hB5) hB5)
  have hu := Tryd.underlying32
  have hii : (Tryd.prog.info? 32).map (·.size) = some E.toList.length := by rw [Array.length_toList]; exact HEI.out.2.2
  have hl64 : E.toList.length = 64 := by rw [Array.length_toList]; exact HEI.out.1
  have hone : ∀ v ∈ E.toList, v.oneCell' = true := fun v hv => (Array.all_eq_true_iff_forall_mem.1 HEI.out.2.1) v (by simpa using hv)
  have hT : E.toList.toArray = E := by simp
  obtain ⟨Z, hZ⟩ : ∃ Z, Z = E.toList := ⟨_, rfl⟩
  rw [← hZ] at hii hl64 hone hT hrg
  have hg5 : g5 < w5.heap.size := by omega
  clear hZ hF ht hD5 HM2 hE5 hR5 hB5 HE HD HZ HEI
  have hS0 : w5.rangeAt g5 0 Z ∧ But w.heap.size w5 w5 := ⟨hrg, But.refl _ _⟩
  go_region_held3 (fun w' => w'.rangeAt g5 0 Z ∧ But w.heap.size w5 w')
    (first
      | with_reducible assumption
      | exact hS0
      | exact keepD hS0
      | exact keepD (keepA hg5 hS0)
      | exact keepC hb' hgW (by assumption)
      | exact keepS (Nat.ne_of_gt hlt2) (by assumption))
    (first
      | (go_at_call 10; have hgW := (show g5 < (w5.alloc (.cells #[.slice (some ⟨g6, 0, none⟩) 32 32] 22)).drew.heap.size from by simp [World.drew]; omega); refine (HM3.out _ w5.heap.size ((HK5.out.1.alloc _).drew) (But.alloc (But.refl _ w5) _).drew (by rw [World.cell?_drew, World.cell?_alloc_mark]; rfl)).mono ?_; rintro e w' ⟨rfl, hb'⟩; have hN' := veil (row_below (row_drewN (HN.out.alloc (.cells #[.slice (some ⟨g6, 0, none⟩) 32 32] 22)) 1) hb' (by omega)); have hth := there_row hN'.out (show F.toList.length = 32 by rw [Array.length_toList]; exact HF.out.1)))
  rename (_ ∧ But _ _ _) => hHeld
  clear hu hrg hT hone hl64 hii hS0 hoF hiF hth
  go_wp2
  exact bodyPost_ret (results_cell_row rfl _ _ w.heap.size 26 F (0, 0) _ rfl (blk_setCells hN'.out HF.out.1) Tryd.underlying26 rfl HF.out.2.2) rfl ⟨by rw [HFF.out], HK5.out.2.trans (But.new hHeld.2 (B := w.heap.size) (Nat.le_refl _) HK5.out.2.size)⟩
end Go.Proofs.YtmgogcoafhompaaDoor
