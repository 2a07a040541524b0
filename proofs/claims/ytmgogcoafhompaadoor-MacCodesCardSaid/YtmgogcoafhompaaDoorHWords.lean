/-
  sha: (*Hash).words: the 64 words of a block.
-/
import Derived.Test.YtmgogcoafhompaaDoorHBase
import Derived.Test.YtmgogcoafhompaaDoorHRot
import Derived.WalkKit
import Derived.WalkSpells
import Derived.WalkLawsBesides
import Derived.Deep.LoopGhost
import Derived.Deep.RegionWith
import Derived.Deep.Cut
import Derived.Deep.CutRange
import Derived.Deep.RegionHeld3
import Derived.Deep.QuietTactic
import Derived.BigQuiet
import Derived.StillTailTactics
import Derived.IntWalk
namespace Go.Proofs.YtmgogcoafhompaaDoor
open Go.RowKit

theorem info8 : (Tryd.prog.info? 32).map (·.size) = some 64 := by kernel_rfl
theorem info32 : (Tryd.prog.info? 51).map (·.size) = some 64 := by kernel_rfl

theorem zeros64 : (#[.int .u32 0, .int .u32 0, .int .u32 0, .int .u32 0, .int .u32 0, .int .u32 0, .int .u32 0, .int .u32 0, .int .u32 0, .int .u32 0, .int .u32 0, .int .u32 0, .int .u32 0, .int .u32 0, .int .u32 0, .int .u32 0, .int .u32 0, .int .u32 0, .int .u32 0, .int .u32 0, .int .u32 0, .int .u32 0, .int .u32 0, .int .u32 0, .int .u32 0, .int .u32 0, .int .u32 0, .int .u32 0, .int .u32 0, .int .u32 0, .int .u32 0, .int .u32 0, .int .u32 0, .int .u32 0, .int .u32 0, .int .u32 0, .int .u32 0, .int .u32 0, .int .u32 0, .int .u32 0, .int .u32 0, .int .u32 0, .int .u32 0, .int .u32 0, .int .u32 0, .int .u32 0, .int .u32 0, .int .u32 0, .int .u32 0, .int .u32 0, .int .u32 0, .int .u32 0, .int .u32 0, .int .u32 0, .int .u32 0, .int .u32 0, .int .u32 0, .int .u32 0, .int .u32 0, .int .u32 0, .int .u32 0, .int .u32 0, .int .u32 0, .int .u32 0] : Array Value) = arrOf 64 (fun _ => .int .u32 0) := rfl

/-- The first m bytes of word j of a block, as a number. -/
def pwb (blk : Nat → Nat) (j : Nat) : Nat → Nat
  | 0 => 0
  | m + 1 => pwb blk j m * 256 + blk (4 * j + m)
theorem pwb_lt {blk : Nat → Nat} (h : ∀ j, blk j < 256) (j : Nat) : ∀ m, pwb blk j m < 256 ^ m
  | 0 => by simp [pwb]
  | m + 1 => by
    have ih := pwb_lt h j m
    have hb := h (4 * j + m)
    show pwb blk j m * 256 + blk (4 * j + m) < 256 ^ (m + 1)
    rw [Nat.pow_succ]; omega
/-- Word j, where k bytes of the block have come. -/
def pw (blk : Nat → Nat) (k j : Nat) : Nat := pwb blk j (min (k - 4 * j) 4)
theorem pw_zero (blk : Nat → Nat) (j : Nat) : pw blk 0 j = 0 := by unfold pw; rw [Nat.zero_sub, Nat.zero_min]; rfl
theorem pw_step {blk : Nat → Nat} {k : Nat} (j : Nat) : pw blk (k + 1) j = if j = k / 4 then pw blk k j * 256 + blk k else pw blk k j := by
  unfold pw
  by_cases h : j = k / 4
  · rw [if_pos h, show min (k + 1 - 4 * j) 4 = min (k - 4 * j) 4 + 1 by omega]
    show pwb blk j _ * 256 + blk (4 * j + _) = _
    rw [show 4 * j + min (k - 4 * j) 4 = k by omega]
  · rw [if_neg h, show min (k + 1 - 4 * j) 4 = min (k - 4 * j) 4 by omega]
theorem pw_lt {blk : Nat → Nat} (h : ∀ j, blk j < 256) (k : Nat) : pw blk k (k / 4) < 16777216 := by
  unfold pw
  have := pwb_lt h (k / 4) (min (k - 4 * (k / 4)) 4)
  have h2 : 256 ^ min (k - 4 * (k / 4)) 4 ≤ 256 ^ 3 := Nat.pow_le_pow_right (by omega) (by omega)
  have h3 : (256 : Nat) ^ 3 = 16777216 := by decide
  omega
theorem pw_all {blk : Nat → Nat} {j : Nat} (hj : j < 16) : pw blk 64 j = word blk (4 * j) := by
  unfold pw
  rw [show min (64 - 4 * j) 4 = 4 by omega]
  show (((0 * 256 + blk (4 * j + 0)) * 256 + blk (4 * j + 1)) * 256 + blk (4 * j + 2)) * 256 + blk (4 * j + 3) = _
  unfold word
  rw [Nat.add_zero]
  omega
theorem pw_none {blk : Nat → Nat} {j : Nat} (hj : 16 ≤ j) : pw blk 64 j = 0 := by
  unfold pw
  rw [show min (64 - 4 * j) 4 = 0 by omega]; rfl
theorem or_byte {x y : Nat} (hx : x < 16777216) (hy : y < 256) : bits .or .u32 ((x : Int) * 256) (y : Int) = ((x * 256 + y : Nat) : Int) := by
  have h := or32 (x * 256) y (by omega) (by omega)
  rw [show x * 256 = 2 ^ 8 * x by omega, ← Nat.two_pow_add_eq_or_of_lt (show y < 2 ^ 8 by omega)] at h
  rw [show x * 256 = 2 ^ 8 * x by omega, ← h]
  rw [Int.natCast_mul, Int.mul_comm]; rfl

set_option maxRecDepth 100000 in
set_option maxHeartbeats 4000000 in
theorem words_calls (g : Nat) (s : St) (blk : Nat → Nat) (len : Nat) (hblk : ∀ j, blk j < 256) (w : World) (hH : HRow w g s blk len) :
    Calls Tryd.prog 23 #[.pointer (some ⟨g, 0, none⟩)] w fun e w' => e = .returned (.agg (arrOf 64 fun t => .int .u32 (wt (fun t => word blk (4 * t)) t : Nat))) ∧ Below w.heap.size w w' := by
  go_enter Tryd.func23, Tryd.ntmps23
  go_upto_region 2 with (fail)
  rw [zeros64]
  have hN0 : ((w.alloc (.cells (arrOf 64 (fun _ => .int .u32 0)) 51)).alloc (.cells (arrOf 64 (fun _ => .int .u32 0)) 51)).rowIs w.heap.size 51 64 (fun _ => .int .u32 0) := (row_made w 64 51 (fun _ => .int .u32 0) rfl).alloc _
  have hR : ((w.alloc (.cells (arrOf 64 (fun _ => .int .u32 0)) 51)).alloc (.cells (arrOf 64 (fun _ => .int .u32 0)) 51)).rowIs (w.heap.size + 1) 51 64 (fun _ => .int .u32 0) := row_made _ 64 51 (fun _ => .int .u32 0) (by simp)
  have hb : Below w.heap.size w ((w.alloc (.cells (arrOf 64 (fun _ => .int .u32 0)) 51)).alloc (.cells (arrOf 64 (fun _ => .int .u32 0)) 51)) := ((Below.refl _ _).alloc (by simp) _).alloc (by simp) _
  have hH1 := (hH.alloc (.cells (arrOf 64 (fun _ => .int .u32 0)) 51)).alloc (.cells (arrOf 64 (fun _ => .int .u32 0)) 51)
  generalize ((w.alloc (.cells (arrOf 64 (fun _ => .int .u32 0)) 51)).alloc (.cells (arrOf 64 (fun _ => .int .u32 0)) 51)) = w1 at *
  have HB := veil hH1.block
  obtain ⟨B, hB⟩ : ∃ B, B = ((List.range 64).map fun j => Value.int .u8 (blk j : Nat)).toArray := ⟨_, rfl⟩
  have HBB := veil hB
  clear hB
  go_wp2_with ((with_reducible refine at_slot 10 ?_); refine wpList_load_mid rfl 32 _ rfl g 8 rfl ((List.range 64).map fun j => Value.int .u8 (blk j : Nat)) _ HB.out Tryd.underlying32 rfl info8 ?_; rw [← HBB.out])
  go_loopw [11] (fun c wr => ∃ k : Nat, k ≤ 64 ∧ c = .int .i64 k ∧ wr.rowIs (w.heap.size + 1) 51 64 (fun j => .int .u32 (pw blk k j : Nat)) ∧ wr.rowIs w.heap.size 51 64 (fun _ => .int .u32 0) ∧ Below w.heap.size w wr)
    (fun c _ => 64 - (intOf c).toNat)
  case atStart => exact ⟨0, by omega, rfl, hR.congr fun j _ => by rw [pw_zero]; rfl, hN0, hb⟩
  case round =>
    obtain ⟨k, hk, rfl, hR, hN0, hb⟩ := hrel
    by_cases hlt : k < 64
    · have hBk : B[k]? = some (.int .u8 (blk k : Nat)) := by rw [HBB.out]; simp [hlt]
      have hst := fun j => pw_step (blk := blk) (k := k) j
      have hx := pw_lt hblk k
      have hy := hblk k
      obtain ⟨q, hq⟩ : ∃ q, q = k / 4 := ⟨_, rfl⟩
      rw [← hq] at hst hx
      have hq16 : q < 16 := by omega
      have hqi : (k : Int) / 4 = (q : Int) := by omega
      obtain ⟨x, hxx⟩ : ∃ x, x = pw blk k q := ⟨_, rfl⟩
      obtain ⟨y, hyy⟩ : ∃ y, y = blk k := ⟨_, rfl⟩
      have c1 := hR.cell (show q < 64 by omega)
      have f1 := hR.frozen q
      rw [← hxx] at hx c1
      rw [← hyy] at hy hBk
      have ko := or_byte hx hy
      have HS := veil hst
      have HX := veil hxx
      have HY := veil hyy
      have HQ := veil hq
      have kx := fun W => run_index_arr (P := Tryd.prog) (t := 32) (cs := B) (v := .int .u8 (y : Int)) Tryd.underlying32 (by kernel_rfl) (fun W => run_part_plain (P := Tryd.prog) W (e := 5) (by kernel_rfl) (xs := B) (off := k) hBk) hlt .i64 W
      clear hst hxx hyy hq hBk
      go_wp2
      go_roundw
      case rel =>
        refine ⟨k + 1, by omega, by go_num, (hR.set q _).congr fun j hj => ?_, row_far hN0 (by omega) _, below_set hb (by omega) _⟩
        by_cases h : j = q
        · subst h
          rw [if_pos rfl, HS.out, if_pos rfl, ← HX.out, ← HY.out]
          rfl
        · rw [if_neg h, HS.out, if_neg h]
      case measure => simp [intOf]; omega
    · have e64 : k = 64 := by omega
      have hR := e64 ▸ hR
      have HK := veil e64
      have hkf : decide ((k : Int) < 64) = false := by simp; omega
      clear e64 hlt hk
      have hm : ∀ t, t < 16 → word blk (4 * t) < 2 ^ 32 := fun t _ => by
        unfold word
        have h0 := hblk (4 * t); have h1 := hblk (4 * t + 1); have h2 := hblk (4 * t + 2); have h3 := hblk (4 * t + 3)
        omega
      have hR : wr.rowIs (w.heap.size + 1) 51 64 (fun j => .int .u32 ((if j < 16 then wt (fun t => word blk (4 * t)) j else 0 : Nat) : Int)) := hR.congr fun j _ => by
        by_cases h : j < 16
        · rw [if_pos h, wt_lo _ h, pw_all h]
        · rw [if_neg h, pw_none (by omega)]
      have hW := fun t => wt_lt (m := fun t => word blk (4 * t)) hm t
      obtain ⟨m, hm0⟩ : ∃ m, m = fun t => word blk (4 * t) := ⟨_, rfl⟩
      rw [← hm0] at hR hW
      have HM0 := veil hm0
      clear hm0
      have HM := veil hm
      have HW := veil hW
      have HBL := veil hblk
      clear hm hW hblk
      go_wp2
      go_loopw [6] (fun c wr => ∃ t : Nat, 16 ≤ t ∧ t ≤ 64 ∧ c = .int .i64 t ∧ wr.rowIs (w.heap.size + 1) 51 64 (fun j => .int .u32 ((if j < t then wt m j else 0 : Nat) : Int)) ∧ wr.rowIs w.heap.size 51 64 (fun _ => .int .u32 0) ∧ Below w.heap.size w wr)
        (fun c _ => 64 - (intOf c).toNat)
      case atStart => exact ⟨16, by omega, by omega, rfl, hR, hN0, hb⟩
      case round =>
        obtain ⟨t, ht16, ht, rfl, hR, hN0, hb⟩ := hrel
        by_cases hlt : t < 64
        · obtain ⟨t16, e16⟩ : ∃ t16, t = t16 + 16 := ⟨t - 16, by omega⟩
          have cell : ∀ d, 0 < d → d ≤ 16 → wr.cell? ⟨w.heap.size + 1, t - d, none⟩ = some (.int .u32 (wt m (t - d) : Nat)) := fun d h0 h1 => by
            rw [hR.cell (show t - d < 64 by omega), if_pos (by omega)]
          have c2 := cell 2 (by omega) (by omega)
          have c7 := cell 7 (by omega) (by omega)
          have c15 := cell 15 (by omega) (by omega)
          have c16 := cell 16 (by omega) (by omega)
          have cT : wr.cell? ⟨w.heap.size + 1, t, none⟩ = some (.int .u32 0) := by
            rw [hR.cell hlt, if_neg (by omega)]; rfl
          have fT := hR.frozen t
          have hwt := wt_hi m (show ¬ t < 16 by omega)
          have l2 := HW.out (t - 2)
          have l7 := HW.out (t - 7)
          have l15 := HW.out (t - 15)
          have l16 := HW.out (t - 16)
          obtain ⟨x2, hx2⟩ : ∃ x, x = wt m (t - 2) := ⟨_, rfl⟩
          obtain ⟨x7, hx7⟩ : ∃ x, x = wt m (t - 7) := ⟨_, rfl⟩
          obtain ⟨x15, hx15⟩ : ∃ x, x = wt m (t - 15) := ⟨_, rfl⟩
          obtain ⟨x16, hx16⟩ : ∃ x, x = wt m (t - 16) := ⟨_, rfl⟩
          rw [← hx2] at c2 hwt l2
          rw [← hx7] at c7 hwt l7
          rw [← hx15] at c15 hwt l15
          rw [← hx16] at c16 hwt l16
          have i2 : (t : Int) - 2 = ((t - 2 : Nat) : Int) := by omega
          have i7 : (t : Int) - 7 = ((t - 7 : Nat) : Int) := by omega
          have i15 : (t : Int) - 15 = ((t - 15 : Nat) : Int) := by omega
          have i16 : (t : Int) - 16 = ((t - 16 : Nat) : Int) := by omega
          have b2 : t - 2 < 64 := by omega
          have b7 : t - 7 < 64 := by omega
          have b15 : t - 15 < 64 := by omega
          have b16 : t - 16 < 64 := by omega
          generalize t - 2 = t2 at *
          generalize t - 7 = t7 at *
          generalize t - 15 = t15 at *
          generalize t - 16 = t16' at *
          have a1 : ∀ x y : Nat, ((x : Int) + (y : Int)) % 4294967296 = ((ad x y : Nat) : Int) := fun x y => by unfold ad; rw [Int.natCast_emod, Int.natCast_add]; rfl
          have a2 : ∀ x y : Nat, IntKind.u32.wrap ((x : Int) + (y : Int)) = ((ad x y : Nat) : Int) := fun x y => by rw [wrap32]; exact a1 x y
          have w2 : IntKind.i64.wrap (t2 : Int) = (t2 : Int) := IntWalk.i64_in _ (by omega)
          have w7 : IntKind.i64.wrap (t7 : Int) = (t7 : Int) := IntWalk.i64_in _ (by omega)
          have w15 : IntKind.i64.wrap (t15 : Int) = (t15 : Int) := IntWalk.i64_in _ (by omega)
          have w16 : IntKind.i64.wrap (t16' : Int) = (t16' : Int) := IntWalk.i64_in _ (by omega)
          have j2 : (t2 : Int) < 64 := by omega
          have j7 : (t7 : Int) < 64 := by omega
          have j15 : (t15 : Int) < 64 := by omega
          have j16 : (t16' : Int) < 64 := by omega
          have jT : (t : Int) < 64 := by omega
          have K1 := veil (fun W => smallOne_calls x2 l2 W)
          have K2 := veil (fun W => smallZero_calls x15 l15 W)
          have HT := veil hwt
          have HH := veil (And.intro hx2 (And.intro hx7 (And.intro hx15 hx16)))
          have E16 := veil e16
          clear cell hwt hx2 hx7 hx15 hx16 e16 l2 l15 l7 l16
          go_wp2
          go_still_tail 23, (by kernel_rfl)
          still_call (by first | ((with_reducible refine (K1.out _).mono ?_); rintro e w' ⟨rfl, rfl⟩; exact ⟨rfl, rfl⟩))
          repeat still_step
          still_call (by first | ((with_reducible refine (K2.out _).mono ?_); rintro e w' ⟨rfl, rfl⟩; exact ⟨rfl, rfl⟩))
          repeat still_step
          refine wpStill_nil ?_
          have hR2 := hR.drew
          have hN2 := hN0.drew
          have hb2 := hb.drew
          have cT2 : wr.drew.cell? ⟨w.heap.size + 1, t, none⟩ = some (.int .u32 0) := cT
          have fT2 : wr.drew.frozen? ⟨w.heap.size + 1, t, none⟩ = false := fT
          change wpList _ _ _ _ _ wr.drew
          generalize wr.drew = w2 at *
          clear c2 c7 c15 c16 cT fT hR hN0 hb
          go_wp2
          go_roundw
          case rel =>
            refine ⟨t + 1, by omega, by omega, by go_num, (hR2.set t _).congr fun j hj => ?_, row_far hN2 (by omega) _, below_set hb2 (by omega) _⟩
            by_cases h : j = t
            · subst h
              rw [if_pos rfl, if_pos (by omega), HT.out]
            · rw [if_neg h]
              by_cases h2 : j < t
              · rw [if_pos h2, if_pos (by omega)]
              · rw [if_neg h2, if_neg (by omega)]
          case measure => simp [intOf]; omega
        · have e64 : t = 64 := by omega
          have hR := e64 ▸ hR
          have hR : wr.rowIs (w.heap.size + 1) 51 64 (fun j => .int .u32 (wt m j : Nat)) := hR.congr fun j hj => by rw [if_pos hj]
          have htf : decide ((t : Int) < 64) = false := by simp; omega
          clear HM HB HBB e64 hlt ht ht16
          have hA := veil (blkOf hR)
          have hN := veil (blkOf hN0)
          obtain ⟨A, hA2⟩ : ∃ A, A = arrOf 64 (fun j => .int .u32 (wt m j : Nat)) := ⟨_, rfl⟩
          rw [← hA2] at hA
          have HE := veil hA2
          have hs : A.size = 64 := by rw [hA2, arrOf_size]
          have h1 : A.all (·.oneCell') = true := by rw [hA2]; exact arrOf_one fun _ _ => rfl
          have h2 : (Tryd.prog.info? 51).map (·.size) = some A.size := by rw [hs]; exact info32
          have HZ := veil (And.intro hs (And.intro h1 h2))
          clear hs h1 h2 hA2
          go_wp2_with (first
            | ((with_reducible refine at_slot 54 ?_); refine wpList_load_row rfl 51 _ rfl (w.heap.size + 1) rfl 51 A (0, 0) _ hA.out Tryd.underlying51 rfl HZ.out.2.2 ?_)
            | ((with_reducible refine at_none ?_); refine wpList_store_row rfl 51 _ _ rfl w.heap.size A rfl rfl 51 _ hN.out HZ.out.2.2 (by rw [HZ.out.1, arrOf_size]) HZ.out.2.1 ?_))
          exact bodyPost_ret (results_cell_row rfl _ _ w.heap.size 51 A (0, 0) _ rfl (setRow_heap wr w.heap.size _ A 51 (0, 0) hN.out) Tryd.underlying51 rfl HZ.out.2.2) rfl ⟨by rw [HE.out, HM0.out], below_setRow hb (Nat.le_refl _) _⟩
end Go.Proofs.YtmgogcoafhompaaDoor
