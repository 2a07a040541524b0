/-
  sha: padding, New, Len, Clone.
-/
import Derived.Test.YtmgogcoafhompaaDoorHWrite
import Derived.WalkKit
import Derived.WalkSpells
import Derived.WalkLawsBesides
import Derived.Deep.LoopGhost
import Derived.Deep.Cut
import Derived.Deep.CutRange
import Derived.Deep.OwnRows
namespace Go.Proofs.YtmgogcoafhompaaDoor
open Go.RowKit

theorem infoB3 : (Tryd.prog.info? 5).map (fun i => (i.zero, i.size, i.bytes)) = some (some (.int .u8 0), 1, 1) := by kernel_rfl
/-- What pads a text of len bytes: byte i. -/
def padB (len : Nat) (i : Nat) : Nat := padded (fun _ => 0) len (len + i)
/-- How many bytes pad it. -/
def padN (len : Nat) : Nat := 64 * nBlocks len - len
theorem padN_eq (len : Nat) : padN len = 9 + (64 - (len + 9) % 64) % 64 := by unfold padN nBlocks; omega
theorem padN_all (len : Nat) : len + padN len = 64 * nBlocks len := by unfold padN nBlocks; omega
theorem padB_lt (len i : Nat) : padB len i < 256 := by
  unfold padB padded
  rw [if_neg (by omega)]
  split
  · omega
  · split
    · omega
    · exact Nat.mod_lt _ (by omega)
theorem cat_pad (b : Nat → Nat) (len : Nat) : cat b len (padB len) = padded b len := by
  funext i
  unfold cat padB
  by_cases h : i < len
  · rw [if_pos h]; unfold padded; rw [if_pos h]
  · rw [if_neg h, show len + (i - len) = i by omega]; unfold padded; rw [if_neg h, if_neg h]
/-- Byte j of it, where k of the last eight were laid. -/
def padK (len k : Nat) (j : Nat) : Nat := if j = 0 then 128 else if j + k < padN len then 0 else padB len j
theorem padK_all (len j : Nat) (hj : j < padN len) : padK len 8 j = padB len j := by
  unfold padK
  by_cases h : j = 0
  · subst h; rw [if_pos rfl]; unfold padB padded; rw [if_neg (by omega), if_pos (by omega)]
  · rw [if_neg h]
    by_cases h2 : j + 8 < padN len
    · rw [if_pos h2]; unfold padB padded
      have := padN_all len
      rw [if_neg (by omega), if_neg (by omega), if_pos (by omega)]
    · rw [if_neg h2]
theorem padB_last {len k : Nat} (hk : k < 8) : padB len (padN len - 1 - k) = 8 * len / 256 ^ k % 256 := by
  have h1 := padN_eq len
  have h2 := padN_all len
  unfold padB padded
  rw [if_neg (by omega), if_neg (by omega), if_neg (by omega), show 64 * nBlocks len - 1 - (len + (padN len - 1 - k)) = k by omega]

theorem byte_shift (x k : Nat) : (x : Int) / 2 ^ (8 * k) % 256 = ((x / 256 ^ k % 256 : Nat) : Int) := by
  rw [Int.natCast_emod, Int.natCast_ediv, Int.natCast_pow, Nat.mul_comm 8 k, Nat.mul_comm k 8, Int.pow_mul]
  rfl
set_option maxRecDepth 100000 in
set_option maxHeartbeats 4000000 in
theorem padding_calls (len : Nat) (hl : len ≤ 288230376151711744) (w : World) :
    Calls Tryd.prog 22 #[.int .i64 (len : Int)] w fun e w' => e = .returned (.slice (some ⟨w.heap.size, 0, none⟩) (padN len) (padN len)) ∧ w'.rowIs w.heap.size 5 (padN len) (fun j => .int .u8 (padB len j : Nat)) ∧ Below w.heap.size w w' := by
  have hP := padN_eq len
  obtain ⟨P, hPP⟩ : ∃ P, P = padN len := ⟨_, rfl⟩
  rw [← hPP] at hP
  obtain ⟨o, ho⟩ : ∃ o, o = (len + 9) % 64 := ⟨_, rfl⟩
  obtain ⟨z, hz⟩ : ∃ z, z = (64 - o) % 64 := ⟨_, rfl⟩
  have e1 : ((len : Int) + 9) % 64 = (o : Int) := by omega
  have e2 : (64 - (o : Int)) % 64 = (z : Int) := by omega
  have e3 : 9 + (z : Int) = (P : Int) := by omega
  have ho64 : o < 64 := by omega
  have hz64 : z < 64 := by omega
  have hP9 : 9 ≤ P := by omega
  have hP72 : P ≤ 72 := by omega
  have hmk := fun W => run_make_row' (P := Tryd.prog) 22 5 (.int .u8 0) 1 Tryd.underlying22 infoB3 rfl .i64 .i64 P (by omega) (by omega) W
  have HP := veil hPP
  clear hP hz ho hPP
  go_enter Tryd.func22, Tryd.ntmps22
  go_upto_region 5 with (fail)
  have hR := World.rowIs_made w (.int .u8 0) P 5
  have hb : Below w.heap.size w (w.alloc (.cells (madeCells #[.int .u8 0] P) 5)) := (Below.refl _ _).alloc (Nat.le_refl _) _
  generalize w.alloc (.cells (madeCells #[.int .u8 0] P) 5) = w1 at *
  generalize hgz : w.heap.size = g at *
  have HGZ := veil hgz
  clear hgz hmk
  have c0 := hR.cell (show 0 < P by omega)
  have f0 := hR.frozen 0
  have hP0 : 0 < P := by omega
  go_upto_region 6 with (fail)
  have hR1 : (w1.setCell ⟨g, 0, none⟩ (.int .u8 128)).rowIs g 5 P (fun j => .int .u8 (padK len 0 j : Nat)) := (hR.set 0 _).congr fun j hj => by
    unfold padK
    by_cases h : j = 0
    · rw [if_pos h, if_pos h]; rfl
    · rw [if_neg h, if_neg h, if_pos (by rw [← HP.out]; omega)]; rfl
  have hb1 : Below g w (w1.setCell ⟨g, 0, none⟩ (.int .u8 128)) := below_set hb (Nat.le_refl _) _
  generalize w1.setCell ⟨g, 0, none⟩ (.int .u8 128) = w2 at *
  have e4 : (len : Int) * 8 = ((8 * len : Nat) : Int) := by omega
  obtain ⟨bc, hbc⟩ : ∃ bc, bc = 8 * len := ⟨_, rfl⟩
  have hbl : bc ≤ 2305843009213693952 := by omega
  rw [← hbc] at e4
  have HBC := veil hbc
  clear c0 f0 hR hb hbc
  go_wp2
  go_loopw [25] (fun v wr => ∃ k : Nat, k ≤ 8 ∧ v = .int .i64 (k : Int) ∧ wr.rowIs g 5 P (fun j => .int .u8 (padK len k j : Nat)) ∧ Below g w wr)
    (fun v _ => 8 - (intOf v).toNat)
  case atStart => exact ⟨0, by omega, rfl, hR1, hb1⟩
  case round =>
    obtain ⟨k, hk, rfl, hR, hb⟩ := hrel
    by_cases hlt : k < 8
    · obtain ⟨d, hd⟩ : ∃ d, d = P - 1 - k := ⟨_, rfl⟩
      have hdP : d < P := by omega
      have hdi : (P : Int) - 1 - (k : Int) = (d : Int) := by omega
      have c0 := hR.cell hdP
      have f0 := hR.frozen d
      have HD := veil hd
      clear hd
      go_wp2
      go_roundw
      case rel =>
        refine ⟨k + 1, by omega, by go_num, (hR.set d _).congr fun j hj => ?_, below_set hb (Nat.le_refl _) _⟩
        by_cases h : j = d
        · rw [if_pos h, byte_shift]
          have hd := HD.out
          unfold padK
          rw [if_neg (by omega), ← HP.out, if_neg (by omega), h, hd, HP.out, padB_last hlt, HBC.out]
        · rw [if_neg h]
          have hd := HD.out
          unfold padK
          rw [← HP.out]
          by_cases h0 : j = 0
          · rw [if_pos h0, if_pos h0]
          · rw [if_neg h0, if_neg h0]
            by_cases h1 : j + k < P
            · rw [if_pos h1, if_pos (by omega)]
            · rw [if_neg h1, if_neg (by omega)]
      case measure => simp [intOf]; omega
    · obtain rfl : k = 8 := by omega
      go_wp2
      go_ret
      exact ⟨by rw [HP.out, HGZ.out]; rfl, by rw [HGZ.out, ← HP.out]; exact hR.congr (fun j hj => by rw [padK_all len j (by rw [← HP.out]; exact hj)]), by rw [HGZ.out]; exact hb⟩

/-! ### New, Len, Clone -/
def zH : Array Value := arrOf 73 (hcells ⟨0, 0, 0, 0, 0, 0, 0, 0⟩ (fun _ => 0) 0)
theorem zH_size : zH.size = 73 := arrOf_size _ _
theorem zero_hash (w : World) : (zeroValue 49).run Tryd.prog w = .ok (.agg zH) w := (zero_of_info (P := Tryd.prog) (t := 49) (v := .agg zH) (n := 73) (by kernel_rfl)).1 w
theorem hok_none (b : Nat → Nat) : HOk b 0 (blocksN (fun _ => 0) 0) (fun _ => 0) := ⟨rfl, fun _ h => by omega, fun _ => by decide⟩
set_option maxRecDepth 100000 in
set_option maxHeartbeats 4000000 in
theorem new_calls (w : World) :
    Calls Tryd.prog 14 #[] w fun e w' => e = .returned (.pointer (some ⟨w.heap.size, 0, none⟩)) ∧ (∀ b, HashIs w' w.heap.size b 0) ∧ Below w.heap.size w w' := by
  have z1 := zero_hash
  have z2 := zH_size
  go_enter Tryd.func14, Tryd.ntmps14
  go_wp2
  generalize hX : Obj.cells _ 49 = X
  have hX2 : X = .cells (arrOf 73 (hcells (blocksN (fun _ => 0) 0) (fun _ => 0) 0)) 49 := by rw [← hX]; rfl
  clear hX
  subst hX2
  have hr : HRow (w.alloc (.cells (arrOf 73 (hcells (blocksN (fun _ => 0) 0) (fun _ => 0) 0)) 49)) w.heap.size (blocksN (fun _ => 0) 0) (fun _ => 0) 0 := row_made w 73 49 _ rfl
  have hb : Below w.heap.size w (w.alloc (.cells (arrOf 73 (hcells (blocksN (fun _ => 0) 0) (fun _ => 0) 0)) 49)) := (Below.refl _ _).alloc (Nat.le_refl _) _
  go_ret
  exact ⟨rfl, fun b => ⟨_, _, hok_none b, hr⟩, hb⟩
theorem infoH : (Tryd.prog.info? 49).map (·.size) = some 73 := by kernel_rfl
theorem hone (s : St) (blk : Nat → Nat) (len : Nat) : (arrOf 73 (hcells s blk len)).all (·.oneCell') = true := arrOf_one fun j _ => by
  unfold hcells
  split
  · rfl
  · split <;> rfl
set_option maxRecDepth 100000 in
set_option maxHeartbeats 4000000 in
theorem clone_calls (g L : Nat) (b : Nat → Nat) (w : World) (hH : HashIs w g b L) :
    Calls Tryd.prog 21 #[.pointer (some ⟨g, 0, none⟩)] w fun e w' => e = .returned (.pointer (some ⟨w.heap.size, 0, none⟩)) ∧ HashIs w' w.heap.size b L ∧ Below w.heap.size w w' := by
  obtain ⟨s, blk, hok, hrow⟩ := hH
  have hg := blkOf hrow
  obtain ⟨X, hX⟩ : ∃ X, X = arrOf 73 (hcells s blk L) := ⟨_, rfl⟩
  rw [← hX] at hg
  have HG := veil hg
  have HX := veil (show X.size = 73 ∧ X.all (·.oneCell') = true from ⟨by rw [hX, arrOf_size], by rw [hX]; exact hone s blk L⟩)
  have HI := veil (show (Tryd.prog.info? 49).map (·.size) = some X.size by rw [HX.out.1]; exact infoH)
  have HXX := veil hX
  have z1 := zero_hash
  have HO := veil hok
  clear hg hX hok hrow
  go_enter Tryd.func21, Tryd.ntmps21
  go_wp2_with (first
    | ((with_reducible refine at_slot 6 ?_); refine wpList_load_row rfl 49 _ rfl g rfl 49 X (0, 0) _ HG.out Tryd.underlying49 rfl HI.out ?_)
    | ((with_reducible refine at_none ?_); refine wpList_store_row rfl 49 _ _ rfl w.heap.size X rfl rfl 49 _ (heap_alloc_last w _) HI.out (by rw [HX.out.1, zH_size]) HX.out.2 ?_; rw [World.setRow_alloc_new]))
  go_ret
  refine ⟨rfl, ⟨s, blk, HO.out, ?_⟩, (Below.refl _ _).alloc (Nat.le_refl _) _⟩
  rw [HXX.out]
  exact row_made w 73 49 _ rfl
end Go.Proofs.YtmgogcoafhompaaDoor
