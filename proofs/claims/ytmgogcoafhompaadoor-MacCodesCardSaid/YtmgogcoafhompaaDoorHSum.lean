/-
  sha: (*Hash).Sum, Sum.
-/
import Derived.Test.YtmgogcoafhompaaDoorHPad
import Derived.WalkKit
import Derived.WalkSpells
import Derived.WalkLawsBesides
import Derived.Deep.LoopGhost
import Derived.Deep.Cut
import Derived.Deep.CutRange
namespace Go.Proofs.YtmgogcoafhompaaDoor
open Go.RowKit

/-- Byte i of the sum of the state s. -/
def dByte (s : St) (i : Nat) : Nat := s.at (i / 4) / 256 ^ (3 - i % 4) % 256
/-- The sum of the first len bytes of b, as a value's cells. -/
def dgst (b : Nat → Nat) (len : Nat) : Array Value := arrOf 32 fun i => .int .u8 (dByte (shaSt b len) i : Nat)
theorem infoD : (Tryd.prog.info? 26).map (·.size) = some 32 := by kernel_rfl
theorem zeros32 : (#[.int .u8 0, .int .u8 0, .int .u8 0, .int .u8 0, .int .u8 0, .int .u8 0, .int .u8 0, .int .u8 0, .int .u8 0, .int .u8 0, .int .u8 0, .int .u8 0, .int .u8 0, .int .u8 0, .int .u8 0, .int .u8 0, .int .u8 0, .int .u8 0, .int .u8 0, .int .u8 0, .int .u8 0, .int .u8 0, .int .u8 0, .int .u8 0, .int .u8 0, .int .u8 0, .int .u8 0, .int .u8 0, .int .u8 0, .int .u8 0, .int .u8 0, .int .u8 0] : Array Value) = arrOf 32 (fun _ => .int .u8 0) := rfl
theorem shaSt_of {b : Nat → Nat} {L : Nat} {s : St} {blk : Nat → Nat} (h : HOk (cat b L (padB L)) (L + padN L) s blk) : s = shaSt b L := by
  rw [h.s, padN_all, cat_pad, Nat.mul_div_cancel_left _ (by decide : 0 < 64)]
  rfl

set_option maxRecDepth 100000 in
set_option maxHeartbeats 4000000 in
theorem hsum_calls (g L : Nat) (b : Nat → Nat) (hL : L ≤ 1048576) (w : World) (hK : KT w) (hH : HashIs w g b L) :
    Calls Tryd.prog 16 #[.pointer (some ⟨g, 0, none⟩)] w fun e w' => e = .returned (.agg (dgst b L)) ∧ Below w.heap.size w w' := by
  go_enter Tryd.func16, Tryd.ntmps16
  go_upto_region 1 with (fail)
  rw [zeros32]
  have hR0 : (w.alloc (.cells (arrOf 32 (fun _ => .int .u8 0)) 26)).rowIs w.heap.size 26 32 (fun _ => .int .u8 0) := row_made w 32 26 _ rfl
  have hb0 : Below w.heap.size w (w.alloc (.cells (arrOf 32 (fun _ => .int .u8 0)) 26)) := (Below.refl _ _).alloc (Nat.le_refl _) _
  have hK0 := hK.alloc (.cells (arrOf 32 (fun _ => .int .u8 0)) 26)
  have hH0 := hH.alloc (.cells (arrOf 32 (fun _ => .int .u8 0)) 26)
  have hg0 : 0 < w.heap.size := hK.lt
  generalize w.alloc (.cells (arrOf 32 (fun _ => .int .u8 0)) 26) = w1 at *
  generalize hgr : w.heap.size = gR at *
  have HGR := veil hgr
  clear hgr hK hH
  go_wp2_with fail
  refine (clone_calls g L b w1 hH0).mono ?_
  rintro e w2 ⟨rfl, hC, hb2⟩
  have hR2 := row_below hR0 hb2 hR0.lt
  have hK2 := hK0.call hb2
  have hH2 := hH0.call hb2
  have hB2 := hb0.trans (hb2.mono (Nat.le_of_lt hR0.lt))
  have hgC : gR < w1.heap.size := hR0.lt
  have hz2 := hC.lt
  generalize w1.heap.size = gC at *
  have cL := hH2.len
  clear hR0 hK0 hH0 hb0 hb2
  go_wp2_with fail
  refine (padding_calls L (by omega) w2).mono ?_
  rintro e w3 ⟨rfl, hP, hb3⟩
  have hC3 := hC.call hb3
  have hK3 := hK2.call hb3
  have hR3 := row_below hR2 hb3 hR2.lt
  have hB3 := hB2.trans (hb3.mono (by omega))
  have hS3 : Src w3 (some ⟨w2.heap.size, 0, none⟩) (padN L) (padB L) gC := .inr ⟨_, 0, rfl, hP.lt, by omega, fun j hj => by rw [Nat.zero_add]; exact hP.cell hj⟩
  clear hC hK2 hR2 hB2 hb3 cL hH2 hP
  go_wp2_with fail
  refine (write_calls gC b L _ (padN L) (padN L) (padB L) (padB_lt L) (Nat.le_refl _) (by have := padN_eq L; omega) (by omega) w3 hK3 hC3 hS3).mono ?_
  rintro e w4 ⟨rfl, ⟨s, blk, hok, hrow⟩, hb4⟩
  have hR4 := row_but hR3 hb4 (by omega)
  have hB4 := hB3.trans (But.new hb4 (B := gR) (by omega) (by have := hR3.lt; omega))
  obtain rfl := shaSt_of hok
  clear hR3 hB3 hS3 hC3 hK3 hb4 hok
  obtain ⟨sh, hsh⟩ : ∃ sh, sh = shaSt b L := ⟨_, rfl⟩
  rw [← hsh] at hrow
  have HSH := veil hsh
  clear hsh
  have hlt4 : gR < w4.heap.size := hR4.lt
  go_upto_region 4 with (fail)
  rw [zeros32]
  have hO5 : (w4.alloc (.cells (arrOf 32 (fun _ => .int .u8 0)) 26)).rowIs w4.heap.size 26 32 (fun _ => .int .u8 0) := row_made w4 32 26 _ rfl
  have hR5 := hR4.alloc (.cells (arrOf 32 (fun _ => .int .u8 0)) 26)
  have hB5 := hB4.alloc (by omega) (.cells (arrOf 32 (fun _ => .int .u8 0)) 26)
  have hw5 := veil (hrow.alloc (.cells (arrOf 32 (fun _ => .int .u8 0)) 26)).words
  generalize w4.alloc (.cells (arrOf 32 (fun _ => .int .u8 0)) 26) = w5 at *
  generalize hgo : w4.heap.size = gO at *
  have hgRO : gR < gO := by omega
  clear hrow hR4 hB4 hgo
  have kx : ∀ j : Nat, j < 8 → ∀ W, (Instr.index 47 (.agg (stArr sh)) (.int .i64 (j : Int))).run Tryd.prog W = .ok (.int .u32 (sh.at j : Nat)) W := fun j hj W =>
    run_index_arr (P := Tryd.prog) (t := 47) (v := .int .u32 (sh.at j : Nat)) Tryd.underlying47 (by kernel_rfl) (fun W => run_part_plain (P := Tryd.prog) W (e := 42) (by kernel_rfl) (off := j) (arrOf_get (n := 8) (fun i => .int .u32 (sh.at i : Nat)) hj)) hj .i64 W
  have KX := veil kx
  have HSL := veil (stList sh)
  clear kx
  go_wp2_with ((with_reducible refine at_slot 20 ?_); refine wpList_load_mid rfl 47 _ rfl gC 0 rfl _ _ hw5.out Tryd.underlying47 rfl (by simpa using infoS) ?_; rw [HSL.out]; generalize hSA : stArr sh = SA at *; have HSA := veil hSA; clear hSA)
  clear hw5
  go_loopw [21] (fun v wr => ∃ i : Nat, i ≤ 8 ∧ v = .int .i64 (i : Int) ∧ wr.rowIs gO 26 32 (fun p => .int .u8 ((if p < 4 * i then dByte sh p else 0 : Nat) : Int)) ∧ wr.rowIs gR 26 32 (fun _ => .int .u8 0) ∧ Below gR w wr)
    (fun v _ => 8 - (intOf v).toNat)
  case atStart => exact ⟨0, by omega, rfl, hO5, hR5, hB5⟩
  case round =>
    obtain ⟨i, hi, rfl, hO, hR, hB⟩ := hrel
    by_cases hlt : i < 8
    · have ki := KX.out i hlt
      obtain ⟨x, hx⟩ : ∃ x, x = sh.at i := ⟨_, rfl⟩
      rw [← hx] at ki
      have HX := veil hx
      have hd : decide ((i : Int) < 8) = true := by simp; omega
      clear hx
      go_wp2
      go_loopw [25] (fun v wr => ∃ j : Nat, j ≤ 4 ∧ v = .int .i64 (j : Int) ∧ wr.rowIs gO 26 32 (fun p => .int .u8 ((if p < 4 * i + j then dByte sh p else 0 : Nat) : Int)) ∧ wr.rowIs gR 26 32 (fun _ => .int .u8 0) ∧ Below gR w wr)
        (fun v _ => 4 - (intOf v).toNat)
      case atStart => exact ⟨0, by omega, rfl, hO, hR, hB⟩
      case round =>
        obtain ⟨j, hj, rfl, hO, hR, hB⟩ := hrel
        by_cases hlj : j < 4
        · obtain ⟨p, hp⟩ : ∃ p, p = 4 * i + j := ⟨_, rfl⟩
          have hp32 : p < 32 := by omega
          have hpi : (i : Int) * 4 + (j : Int) = (p : Int) := by omega
          have c0 := hO.cell hp32
          have f0 := hO.frozen p
          have HP := veil hp
          clear hp
          go_wp2
          go_roundw
          case rel =>
            refine ⟨j + 1, by omega, by go_num, (hO.set p _).congr fun q hq => ?_, row_far hR (by omega) _, below_set hB (by omega) _⟩
            have hp := HP.out
            by_cases h : q = p
            · rw [if_pos h, if_pos (by omega), byte_shift]
              unfold dByte
              rw [show q / 4 = i by omega, show 3 - q % 4 = 3 - j by omega, ← HX.out]
            · rw [if_neg h]
              by_cases h2 : q < 4 * i + j
              · rw [if_pos h2, if_pos (by omega)]
              · rw [if_neg h2, if_neg (by omega)]
          case measure => simp [intOf]; omega
        · have e4 : j = 4 := by omega
          have hjf : decide ((j : Int) < 4) = false := by simp; omega
          have hO : wr.rowIs gO 26 32 (fun p => .int .u8 ((if p < 4 * (i + 1) then dByte sh p else 0 : Nat) : Int)) := hO.congr fun p _ => by rw [e4, show 4 * (i + 1) = 4 * i + 4 by omega]
          clear e4 hlj hj
          go_wp2
          go_roundw
          case rel => exact ⟨i + 1, by omega, by go_num, hO, hR, hB⟩
          case measure => simp [intOf]; omega
    · have e8 : i = 8 := by omega
      have hif : decide ((i : Int) < 8) = false := by simp; omega
      have hO : wr.rowIs gO 26 32 (fun p => .int .u8 (dByte sh p : Nat)) := hO.congr fun p hp => by rw [if_pos (by omega)]
      have HA := veil (blkOf hO)
      have HN := veil (blkOf hR)
      obtain ⟨D, hD⟩ : ∃ D, D = arrOf 32 (fun p => .int .u8 (dByte sh p : Nat)) := ⟨_, rfl⟩
      rw [← hD] at HA
      have hs : D.size = 32 := by rw [hD, arrOf_size]
      have h1 : D.all (·.oneCell') = true := by rw [hD]; exact arrOf_one fun _ _ => rfl
      have HZ := veil (And.intro hs (And.intro h1 (show (Tryd.prog.info? 26).map (·.size) = some D.size by rw [hs]; exact infoD)))
      have HD := veil (show D = dgst b L by rw [hD, HSH.out]; rfl)
      clear hs h1 hD e8 hlt hi hO hR
      go_wp2_with (first
        | ((with_reducible refine at_slot 41 ?_); refine wpList_load_row rfl 26 _ rfl gO rfl 26 D (0, 0) _ HA.out Tryd.underlying26 rfl HZ.out.2.2 ?_)
        | ((with_reducible refine at_none ?_); refine wpList_store_row rfl 26 _ _ rfl gR D rfl rfl 26 _ HN.out HZ.out.2.2 (by rw [HZ.out.1, arrOf_size]) HZ.out.2.1 ?_))
      exact bodyPost_ret (results_cell_row rfl _ _ gR 26 D (0, 0) _ rfl (setRow_heap wr gR _ D 26 (0, 0) HN.out) Tryd.underlying26 rfl HZ.out.2.2) rfl ⟨by rw [HD.out], by rw [HGR.out]; exact below_setRow hB (Nat.le_refl _) _⟩

theorem dgst_size (b : Nat → Nat) (n : Nat) : (dgst b n).size = 32 := arrOf_size _ _
theorem dgst_congr {b b' : Nat → Nat} {n : Nat} (h : ∀ i, i < n → b i = b' i) : dgst b n = dgst b' n := by
  have : shaSt b n = shaSt b' n := by
    unfold shaSt
    refine blocksN_congr _ fun i _ => ?_
    unfold padded
    by_cases c : i < n
    · rw [if_pos c, if_pos c, h i c]
    · rw [if_neg c, if_neg c]
  unfold dgst
  rw [this]

theorem Src.at {w : World} {A : Option Addr} {n g g' : Nat} {y : Nat → Nat} (h : Src w A n y g) (hg : w.heap.size ≤ g') : Src w A n y g' := by
  rcases h with h | ⟨b, o, ha, hlt, _, hc⟩
  · exact .inl h
  · exact .inr ⟨b, o, ha, hlt, by omega, hc⟩
theorem cat_none (b y : Nat → Nat) : cat b 0 y = y := by funext i; unfold cat; rw [if_neg (by omega), Nat.sub_zero]
set_option maxRecDepth 100000 in
set_option maxHeartbeats 4000000 in
theorem sum_calls (A : Option Addr) (n c : Nat) (y : Nat → Nat) (hy : ∀ j, y j < 256) (hnc : n ≤ c) (hn : n ≤ 1048576) (w : World) (hK : KT w) (hS : Src w A n y w.heap.size) :
    Calls Tryd.prog 13 #[.slice A n c] w fun e w' => e = .returned (.agg (dgst y n)) ∧ Below w.heap.size w w' := by
  have hS0 := hS.at (Nat.le_refl w.heap.size)
  go_enter Tryd.func13, Tryd.ntmps13
  go_upto_region 1 with (fail)
  rw [zeros32]
  have hR0 : (w.alloc (.cells (arrOf 32 (fun _ => .int .u8 0)) 26)).rowIs w.heap.size 26 32 (fun _ => .int .u8 0) := row_made w 32 26 _ rfl
  have hb0 : Below w.heap.size w (w.alloc (.cells (arrOf 32 (fun _ => .int .u8 0)) 26)) := (Below.refl _ _).alloc (Nat.le_refl _) _
  have hK0 := hK.alloc (.cells (arrOf 32 (fun _ => .int .u8 0)) 26)
  have hg0 : 0 < w.heap.size := hK.lt
  have hS1 := (hS.at (g' := w.heap.size + 1) (by omega)).below hb0
  have hsz : (w.alloc (.cells (arrOf 32 (fun _ => .int .u8 0)) 26)).heap.size = w.heap.size + 1 := by simp
  generalize w.alloc (.cells (arrOf 32 (fun _ => .int .u8 0)) 26) = w1 at *
  generalize hgr : w.heap.size = gR at *
  have HGR := veil hgr
  have HY := veil hy
  clear hgr hK hS hS0 hy
  go_wp2_with fail
  refine (new_calls w1).mono ?_
  rintro e w2 ⟨rfl, hC, hb2⟩
  have hR2 := row_below hR0 hb2 hR0.lt
  have hK2 := hK0.call hb2
  have hB2 := hb0.trans (hb2.mono (by omega))
  have hS2 := hS1.below hb2
  rw [hsz] at hC ⊢
  have HC := veil (hC (fun _ => 0))
  clear hR0 hK0 hb0 hb2 hS1 hC hsz
  go_wp2_with fail
  refine (write_calls (gR + 1) (fun _ => 0) 0 A n c y HY.out hnc (by omega) (by omega) w2 hK2 HC.out hS2).mono ?_
  rintro e w3 ⟨rfl, hH3, hb3⟩
  rw [Nat.zero_add, cat_none] at hH3
  have hR3 := row_but hR2 hb3 (by omega)
  have hK3 := hK2.grown hb3 (by omega)
  have hB3 := hB2.trans (But.new hb3 (B := gR) (by omega) (by have := hR2.lt; omega))
  clear hR2 hK2 hB2 hS2 HC hb3
  go_wp2_with fail
  refine (hsum_calls (gR + 1) n y hn w3 hK3 hH3).mono ?_
  rintro e w4 ⟨rfl, hb4⟩
  have hR4 := row_below hR3 hb4 hR3.lt
  have hB4 := hB3.trans (hb4.mono (by have := hR3.lt; omega))
  have HN := veil (blkOf hR4)
  have HZ := veil (And.intro (dgst_size y n) (And.intro (show (dgst y n).all (·.oneCell') = true from arrOf_one fun _ _ => rfl) (show (Tryd.prog.info? 26).map (·.size) = some (dgst y n).size by rw [dgst_size]; exact infoD)))
  obtain ⟨D, hD⟩ : ∃ D, D = dgst y n := ⟨_, rfl⟩
  rw [← hD] at HZ ⊢
  have HD := veil hD
  clear hR3 hK3 hB3 hH3 hb4 hR4 hD
  go_wp2_with ((with_reducible refine at_none ?_); refine wpList_store_row rfl 26 _ _ rfl gR D rfl rfl 26 _ HN.out HZ.out.2.2 (by rw [HZ.out.1, arrOf_size]) HZ.out.2.1 ?_)
  exact bodyPost_ret (results_cell_row rfl _ _ gR 26 D (0, 0) _ rfl (setRow_heap w4 gR _ D 26 (0, 0) HN.out) Tryd.underlying26 rfl HZ.out.2.2) rfl ⟨by rw [HD.out], by rw [HGR.out]; exact below_setRow hB4 (Nat.le_refl _) _⟩
end Go.Proofs.YtmgogcoafhompaaDoor
