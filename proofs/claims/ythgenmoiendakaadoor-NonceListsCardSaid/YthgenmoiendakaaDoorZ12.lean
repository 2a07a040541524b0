/-
  Merged: Word ROf RBytes.
-/
import Derived.Deep.QuietTactic
import Derived.BigQuiet
import Derived.Deep.RegionWith
import Derived.BigRegion
import Derived.Deep.AppendLies
import Derived.Deep.RegionHeld3
import Derived.Test.YthgenmoiendakaaDoorZ1

/-
  clapperref01.word, Num, Wide: numbers of their parts.
-/
namespace Go.Proofs.YthgenmoiendakaaDoor
open Go.RowKit

set_option maxRecDepth 100000 in
set_option maxHeartbeats 400000 in
theorem word_core (Z g n c j : Nat) (hn : n ≤ 32) (hj : j + 4 ≤ n) (w : World) (hp : Pre w g 3 n (ptv Z)) :
    Calls Tryd.prog 44 #[.slice (some ⟨g, 0, none⟩) n c, .int .i64 (j : Int)] w fun e w' => e = .returned (.int .u64 (pt Z j + 65536 * pt Z (j + 1) + 4294967296 * pt Z (j + 2) + 281474976710656 * pt Z (j + 3))) ∧ ∃ m, w' = w.drewN m := by
  have c0 : w.cell? ⟨g, j, none⟩ = some (.int .i64 (pt Z j)) := hp.cell (by omega)
  have c1 : w.cell? ⟨g, j + 1, none⟩ = some (.int .i64 (pt Z (j + 1))) := hp.cell (by omega)
  have c2 : w.cell? ⟨g, j + 2, none⟩ = some (.int .i64 (pt Z (j + 2))) := hp.cell (by omega)
  have c3 : w.cell? ⟨g, j + 3, none⟩ = some (.int .i64 (pt Z (j + 3))) := hp.cell (by omega)
  have l0 := pt_lo Z j
  have l1 := pt_lo Z (j + 1)
  have l2 := pt_lo Z (j + 2)
  have l3 := pt_lo Z (j + 3)
  have u0 := pt_lt Z j
  have u1 := pt_lt Z (j + 1)
  have u2 := pt_lt Z (j + 2)
  have u3 := pt_lt Z (j + 3)
  clear hp
  go_enter Tryd.func44, Tryd.ntmps44
  go_wp2
  go_quiet (fail)
  go_wp2
  go_ret
  exact ⟨rfl, _, rfl⟩
theorem word_calls (Z g n c q : Nat) (a : Int) (ha : a = ((4 * q : Nat) : Int)) (hn : n ≤ 32) (hj : 4 * q + 4 ≤ n) (w : World) (hp : Pre w g 3 n (ptv Z)) :
    Calls Tryd.prog 44 #[.slice (some ⟨g, 0, none⟩) n c, .int .i64 a] w fun e w' => e = .returned (.int .u64 (wd Z q)) ∧ ∃ m, w' = w.drewN m := by
  subst ha
  rw [wd_pt]
  exact word_core Z g n c (4 * q) hn hj w hp

set_option maxRecDepth 100000 in
set_option maxHeartbeats 400000 in
/-- Num of 16 parts. -/
theorem num_calls (Z g c : Nat) (w : World) (hp : Pre w g 3 16 (ptv Z)) :
    Calls Tryd.prog 34 #[.slice (some ⟨g, 0, none⟩) 16 c] w fun e w' => e = .returned (.agg #[.int .u64 (wd (Z) 0), .int .u64 (wd (Z) 1), .int .u64 (wd (Z) 2), .int .u64 (wd (Z) 3)]) ∧ Below w.heap.size w w' := by
  have hR : (w.alloc (.cells #[.int .u64 0, .int .u64 0, .int .u64 0, .int .u64 0] 24)).rowIs w.heap.size 24 4 (fun _ => .int .u64 0) := row_new (n := 4) rfl rfl (arr4 fun _ => .int .u64 0)
  have HR := veil hR
  have HP := veil (hp.alloc (.cells #[.int .u64 0, .int .u64 0, .int .u64 0, .int .u64 0] 24))
  obtain ⟨d0, d1, d2, d3⟩ := row_c4 hR
  obtain ⟨f0, f1, f2, f3⟩ := row_f4 hR
  clear hR hp
  go_enter Tryd.func34, Tryd.ntmps34
  go_wp2_with fail
  refine (word_calls Z g 16 c 0 0 rfl (by omega) (by omega) _ HP.out).mono ?_
  rintro e w1 ⟨rfl, m1, rfl⟩
  go_wp2_with fail
  refine (word_calls Z g 16 c 1 4 rfl (by omega) (by omega) _ (HP.out.drewN _)).mono ?_
  rintro e w1 ⟨rfl, m2, rfl⟩
  go_wp2_with fail
  refine (word_calls Z g 16 c 2 8 rfl (by omega) (by omega) _ (HP.out.drewN _)).mono ?_
  rintro e w1 ⟨rfl, m3, rfl⟩
  go_wp2_with fail
  refine (word_calls Z g 16 c 3 12 rfl (by omega) (by omega) _ (HP.out.drewN _)).mono ?_
  rintro e w1 ⟨rfl, m4, rfl⟩
  go_wp2
  refine bodyPost_ret (results_cell_row rfl _ _ w.heap.size 24 #[.int .u64 (wd (Z) 0), .int .u64 (wd (Z) 1), .int .u64 (wd (Z) 2), .int .u64 (wd (Z) 3)] (0, 0) _ rfl (blk4 (put4 (row_drewN HR.out _) fun j => .int .u64 (wd Z j))) Tryd.underlying24 rfl (by kernel_rfl)) rfl ⟨rfl, below_put4 (below_drewN ((Below.refl _ _).alloc (Nat.le_refl _) _) _) (Nat.le_refl _) _ _ _ _⟩
end Go.Proofs.YthgenmoiendakaaDoor


/-
  clapperref01.Of: the document's number of bytes.
-/
namespace Go.Proofs.YthgenmoiendakaaDoor
open Go.RowKit

theorem pt_put (L c k j : Nat) (hL : L < 256 ^ k) (hc : c < 256) : pt (L + c * 256 ^ k) j = if j = k / 2 then pt L j + (c * 256 ^ (k % 2) : Nat) else pt L j := by
  have h := dg_put 2 (k / 2) (k % 2) L c (Nat.mod_lt _ (by omega)) (by rw [Nat.div_add_mod]; exact hL) hc j
  rw [Nat.div_add_mod, ← w16_bytes] at h
  unfold pt
  rw [h]
  split
  · rw [Int.natCast_add]
  · rfl
theorem rof_even (L c k : Nat) (hL : L < 256 ^ k) (hc : c < 256) (hk : k % 2 = 0) : pt L (k / 2) + (c : Int) = pt (L + c * 256 ^ k) (k / 2) := by
  rw [pt_put L c k _ hL hc, if_pos rfl, hk]; simp
theorem rof_odd (L c k : Nat) (hL : L < 256 ^ k) (hc : c < 256) (hk : k % 2 = 1) : pt L (k / 2) + 256 * (c : Int) = pt (L + c * 256 ^ k) (k / 2) := by
  rw [pt_put L c k _ hL hc, if_pos rfl, hk]; omega
theorem rof_step (z : Nat → Nat) (k : Nat) (hz : ∀ j, z j < 256) (i : Nat) :
    (if i = k / 2 then Value.int .i64 (pt (lev z k + z k * 256 ^ k) (k / 2)) else Value.int .i64 (pt (lev z k) i)) = Value.int .i64 (pt (lev z (k + 1)) i) := by
  show _ = Value.int .i64 (pt (lev z k + z k * 256 ^ k) i)
  by_cases h : i = k / 2
  · rw [if_pos h, h]
  · rw [if_neg h, pt_put _ _ _ _ (lev_lt hz k) (hz k), if_neg h]
theorem pt_zero (i : Nat) : pt 0 i = 0 := by unfold pt dg; simp

set_option maxRecDepth 100000 in
set_option maxHeartbeats 2000000 in
theorem rof_some (b o n c : Nat) (y : Nat → Nat) (hy : ∀ j, y j < 256) (hn : n ≤ 32) (w : World) (hb : b < w.heap.size) (hcell : ∀ j, j < n → w.cell? ⟨b, o + j, none⟩ = some (.int .u8 (y j))) :
    Calls Tryd.prog 18 #[.slice (some ⟨b, o, none⟩) n c] w fun e w' => e = .returned (.agg #[.int .u64 (wd (lev (fun k => y (n - 1 - k)) n) 0), .int .u64 (wd (lev (fun k => y (n - 1 - k)) n) 1), .int .u64 (wd (lev (fun k => y (n - 1 - k)) n) 2), .int .u64 (wd (lev (fun k => y (n - 1 - k)) n) 3)]) ∧ Below w.heap.size w w' := by
  obtain ⟨i0, hi, hz0, hz1, hz2⟩ := info_parts infoInt
  have hmk : ∀ W : World, (Instr.makeSlice 60 (.int .i64 16) (.int .i64 16)).run Tryd.prog W = .ok (.slice (some ⟨W.heap.size, 0, none⟩) 16 16) (W.alloc (.cells (madeCells #[.int .i64 0] 16) 3)) :=
    fun W => run_make_row 60 3 i0 (.int .i64 0) Tryd.underlying60 hi hz0 hz1 rfl .i64 .i64 16 (by rw [hz2]; omega) (by omega) W
  have HY := veil hy
  have HC := veil hcell
  clear hy hcell
  have hn' : (n : Int) ≤ 32 := by omega
  go_enter Tryd.func18, Tryd.ntmps18
  go_wp2
  go_loopw [4] (fun i wr => ∃ k : Nat, k ≤ n ∧ i = .int .i64 k ∧ wr.rowIs w.heap.size 24 4 (fun _ => .int .u64 0) ∧ wr.rowIs (w.heap.size + 1) 3 16 (fun j => .int .i64 (pt (lev (fun k => y (n - 1 - k)) k) j)) ∧ Below w.heap.size w wr)
    (fun i _ => n - (intOf i).toNat)
  case atStart => exact ⟨0, by omega, rfl, (row_new (n := 4) rfl rfl (arr4 fun _ => .int .u64 0)).alloc _, (row_filled (z := .int .i64 0) (by simp)).congr (fun i _ => by rw [lev, pt_zero]), ((Below.refl _ _).alloc (by simp) _).alloc (by simp) _⟩
  case round =>
    obtain ⟨k, hk, rfl, hR, hS, hbel⟩ := hrel
    by_cases hlt : k < n
    · have c1 := hS.cell (i := k / 2) (by omega)
      have f1 := hS.frozen (k / 2)
      obtain ⟨j, hj⟩ : ∃ j, j = n - 1 - k := ⟨_, rfl⟩
      have hji : (n : Int) - 1 - (k : Int) = (j : Int) := by omega
      have hjn : (j : Int) < (n : Int) := by omega
      have hj0 : (0 : Int) ≤ (j : Int) := by omega
      have hkn : (k : Int) < (n : Int) := by omega
      have c2 := (hbel.cell (p := ⟨b, o + j, none⟩) hb).trans (HC.out j (by omega))
      have l1 := pt_lo (lev (fun k => y (n - 1 - k)) k) (k / 2)
      have u1 : pt (lev (fun k => y (n - 1 - k)) k) (k / 2) ≤ 65535 := by have := pt_lt (lev (fun k => y (n - 1 - k)) k) (k / 2); omega
      have u2 : (y j : Int) ≤ 255 := by have := HY.out j; omega
      have u3 : (0 : Int) ≤ (y j : Int) := by omega
      have HS := veil (rof_step (fun k => y (n - 1 - k)) k (fun j => HY.out _))
      have HJ := veil hj
      clear hj
      rcases Nat.mod_two_eq_zero_or_one k with h2 | h2
      · have hm : ((k : Int) % 2 == 0) = true := by rw [beq_iff_eq]; omega
        have HM := veil h2
        clear h2
        go_wp2
        go_region
        all_goals
          go_wp2
          go_roundw
          case rel =>
            rw [show y j = y (n - 1 - k) by rw [HJ.out], rof_even _ _ _ (lev_lt (fun j => HY.out _) k) (HY.out _) HM.out]
            exact ⟨k + 1, by omega, by go_num, (row_far hR (by omega) _).drew, ((hS.set (k / 2) _).congr fun i _ => HS.out i).drew, (below_set hbel (by omega) _).drew⟩
          case measure => simp [intOf]; omega
      · have hm : ((k : Int) % 2 == 0) = false := by rw [beq_eq_false_iff_ne]; omega
        have HM := veil h2
        clear h2
        go_wp2
        go_region
        all_goals
          go_wp2
          go_roundw
          case rel =>
            rw [show y j = y (n - 1 - k) by rw [HJ.out], rof_odd _ _ _ (lev_lt (fun j => HY.out _) k) (HY.out _) HM.out]
            exact ⟨k + 1, by omega, by go_num, (row_far hR (by omega) _).drew, ((hS.set (k / 2) _).congr fun i _ => HS.out i).drew, (below_set hbel (by omega) _).drew⟩
          case measure => simp [intOf]; omega
    · obtain rfl : k = n := by omega
      go_wp2_with fail
      refine (num_calls (lev (fun j => y (k - 1 - j)) k) (w.heap.size + 1) 16 _ (Pre.of_row hS)).mono ?_
      rintro e w3 ⟨rfl, hb3⟩
      have hR3 := row_below hR hb3 hR.lt
      have hB3 := hbel.trans (hb3.mono hbel.size)
      obtain ⟨d0, d1, d2, d3⟩ := row_c4 hR3
      obtain ⟨f0, f1, f2, f3⟩ := row_f4 hR3
      clear hR hS hbel hb3
      go_wp2
      refine bodyPost_ret (results_cell_row rfl _ _ w.heap.size 24 #[.int .u64 (wd (lev (fun j => y (k - 1 - j)) k) 0), .int .u64 (wd (lev (fun j => y (k - 1 - j)) k) 1), .int .u64 (wd (lev (fun j => y (k - 1 - j)) k) 2), .int .u64 (wd (lev (fun j => y (k - 1 - j)) k) 3)] (0, 0) _ rfl (blk4 (put4 hR3 fun j => .int .u64 (wd (lev (fun j => y (k - 1 - j)) k) j))) Tryd.underlying24 rfl (by kernel_rfl)) rfl ⟨rfl, below_put4 hB3 (by omega) _ _ _ _⟩

set_option maxRecDepth 100000 in
set_option maxHeartbeats 2000000 in
/-- Of no bytes: 0. -/
theorem rof_none (A : Option Addr) (c : Nat) (w : World) :
    Calls Tryd.prog 18 #[.slice A 0 c] w fun e w' => e = .returned (.agg #[.int .u64 (wd (0) 0), .int .u64 (wd (0) 1), .int .u64 (wd (0) 2), .int .u64 (wd (0) 3)]) ∧ Below w.heap.size w w' := by
  obtain ⟨i0, hi, hz0, hz1, hz2⟩ := info_parts infoInt
  have hmk : ∀ W : World, (Instr.makeSlice 60 (.int .i64 16) (.int .i64 16)).run Tryd.prog W = .ok (.slice (some ⟨W.heap.size, 0, none⟩) 16 16) (W.alloc (.cells (madeCells #[.int .i64 0] 16) 3)) :=
    fun W => run_make_row 60 3 i0 (.int .i64 0) Tryd.underlying60 hi hz0 hz1 rfl .i64 .i64 16 (by rw [hz2]; omega) (by omega) W
  go_enter Tryd.func18, Tryd.ntmps18
  go_wp2
  go_loopw [4] (fun i wr => i = .int .i64 0 ∧ wr.rowIs w.heap.size 24 4 (fun _ => .int .u64 0) ∧ wr.rowIs (w.heap.size + 1) 3 16 (fun _ => .int .i64 0) ∧ Below w.heap.size w wr)
    (fun _ _ => 0)
  case atStart => exact ⟨rfl, (row_new (n := 4) rfl rfl (arr4 fun _ => .int .u64 0)).alloc _, row_filled (z := .int .i64 0) (by simp), ((Below.refl _ _).alloc (by simp) _).alloc (by simp) _⟩
  case round =>
    obtain ⟨rfl, hR, hS, hbel⟩ := hrel
    go_wp2_with fail
    refine (num_calls 0 (w.heap.size + 1) 16 _ ((Pre.of_row hS).congr fun i _ => by unfold ptv; rw [pt_zero])).mono ?_
    rintro e w3 ⟨rfl, hb3⟩
    have hR3 := row_below hR hb3 hR.lt
    have hB3 := hbel.trans (hb3.mono hbel.size)
    obtain ⟨d0, d1, d2, d3⟩ := row_c4 hR3
    obtain ⟨f0, f1, f2, f3⟩ := row_f4 hR3
    clear hR hS hbel hb3
    go_wp2
    refine bodyPost_ret (results_cell_row rfl _ _ w.heap.size 24 #[.int .u64 (wd (0) 0), .int .u64 (wd (0) 1), .int .u64 (wd (0) 2), .int .u64 (wd (0) 3)] (0, 0) _ rfl (blk4 (put4 hR3 fun j => .int .u64 (wd 0 j))) Tryd.underlying24 rfl (by kernel_rfl)) rfl ⟨rfl, below_put4 hB3 (by omega) _ _ _ _⟩
end Go.Proofs.YthgenmoiendakaaDoor


/-
  clapperref01.Bytes: the document's bytes of a number.
-/
namespace Go.Proofs.YthgenmoiendakaaDoor
open Go.RowKit

theorem part_bytes (X m : Nat) : pt X m / 256 = byv X (2 * m + 1) ∧ pt X m % 256 = byv X (2 * m) := by
  have h0 := dg_byte X 2 m 0 (by omega)
  have h1 := dg_byte X 2 m 1 (by omega)
  rw [← w16_bytes] at h0 h1
  have hl := dg_lt w16_pos X m
  unfold pt byv
  rw [← h1, ← show dg w16 X m / 256 ^ 0 % 256 = dg 256 X (2 * m) from h0]
  generalize dg w16 X m = D at *
  unfold w16 at hl
  simp only [Nat.pow_zero, Nat.pow_one, Nat.div_one]
  omega
theorem heap_alloc_drew (w : World) (o : Obj) : (w.alloc o).drew.heap[w.heap.size]? = some o := heap_alloc_new w o
def bsv (X j : Nat) : Value := .int .u8 (byv X (31 - j))
theorem bsL_step (X m : Nat) (hm : m < 16) : (List.range (32 - 2 * (m + 1))).map (bsv X) ++ [.int .u8 (byv X (2 * m + 1)), .int .u8 (byv X (2 * m))] = (List.range (32 - 2 * m)).map (bsv X) := by
  rw [show 32 - 2 * m = (32 - 2 * (m + 1)) + 1 + 1 by omega, List.range_succ, List.range_succ, List.map_append, List.map_append, List.append_assoc]
  simp only [List.map_cons, List.map_nil, bsv, List.cons_append, List.nil_append]
  rw [show 31 - (32 - 2 * (m + 1)) = 2 * m + 1 by omega, show 31 - (32 - 2 * (m + 1) + 1) = 2 * m by omega]

theorem conv_hi (z : Int) (h0 : 0 ≤ z) (h1 : z ≤ 65535) : IntKind.u8.wrap (IntKind.i64.wrap (z.tdiv 256)) = z / 256 := by
  have e : z.tdiv 256 = z / 256 := Int.tdiv_eq_ediv_of_nonneg h0
  have h2 : 0 ≤ z / 256 := by omega
  have h3 : z / 256 ≤ 255 := by omega
  rw [e]
  generalize z / 256 = q at *
  rw [IntWalk.i64_in q ⟨by omega, by omega⟩, IntKind.wrap_u8]
  exact Int.emod_eq_of_lt h2 (by omega)
theorem conv_lo (z : Int) (h0 : 0 ≤ z) : IntKind.u8.wrap (z.tmod 256) = z % 256 := by
  have e : z.tmod 256 = z % 256 := Int.tmod_eq_emod_of_nonneg h0
  rw [e, IntKind.wrap_u8]
  exact Int.emod_emod_of_dvd z (Int.dvd_refl 256)
theorem none_yet (X : Nat) (W : World) (base : Nat) : W.ownsRow base 5 1 (.slice none 0 0) (32 - 2 * 16) ((List.range (32 - 2 * 16)).map (bsv X)) := by
  simp only [show 32 - 2 * 16 = 0 from by omega, List.range_zero, List.map_nil]
  exact World.ownsRow_nil _ _ _ _

set_option maxRecDepth 100000 in
set_option maxHeartbeats 2000000 in
theorem rbytes_own (X : Nat) (w : World) :
    Calls Tryd.prog 19 #[.agg #[.int .u64 (wd (X) 0), .int .u64 (wd (X) 1), .int .u64 (wd (X) 2), .int .u64 (wd (X) 3)]] w fun e w' => ∃ g cap, e = .returned (.slice (some ⟨g, 0, none⟩) 32 cap) ∧ 32 ≤ cap ∧ w.heap.size ≤ g ∧ Own w' w.heap.size 5 (.slice (some ⟨g, 0, none⟩) 32 cap) 32 (bsv X) ∧ Below w.heap.size w w' := by
  obtain ⟨i0, hi, hz0, hz1, hz2⟩ := info_parts infoByte
  have hB0 : Below w.heap.size w (w.alloc (.cells #[.int .u64 (wd (X) 0), .int .u64 (wd (X) 1), .int .u64 (wd (X) 2), .int .u64 (wd (X) 3)] 24)) := (Below.refl _ _).alloc (by simp) _
  go_enter Tryd.func19, Tryd.ntmps19
  go_wp2_with fail
  refine (parts_calls X _).mono ?_
  rintro e w1 ⟨g1, cap1, rfl, hg1, hp1, hb1⟩
  have hB1 := hB0.trans (hb1.mono (by simp))
  have hl1 := hp1.lt
  have hsz := hB1.size
  clear hB0 hb1 hg1
  go_wp2
  go_loopw [4, 5] (fun v i wr => ∃ k : Nat, k ≤ 16 ∧ i = .int .i64 ((k : Int) - 1) ∧ wr.ownsRow w1.heap.size 5 1 v (32 - 2 * k) ((List.range (32 - 2 * k)).map (bsv X)) ∧ Pre wr g1 3 16 (ptv X) ∧ Below w.heap.size w wr ∧ w1.heap.size ≤ wr.heap.size)
    (fun _ i _ => (intOf i + 1).toNat)
  case atStart => exact ⟨16, by omega, rfl, none_yet X w1 _, hp1, hB1, Nat.le_refl _⟩
  case round =>
    clear hp1 hB1
    obtain ⟨k, hk, hii, hown, hp, hbel, hsz2⟩ := hrel
    cases k with
    | zero =>
      subst hii
      go_wp2
      go_ret
      have ho : Own wr w1.heap.size 5 _ 32 (bsv X) := hown
      obtain ⟨g, cap, rfl, hc, hg, _⟩ := ho.pre (by omega)
      exact ⟨g, cap, rfl, hc, by omega, ho.base_le hsz, hbel⟩
    | succ m =>
      obtain rfl : _ = Value.int .i64 (m : Int) := hii.trans (by congr 1; omega)
      have hm : m < 16 := by omega
      have c1 := hp.cell hm
      simp only [ptv] at c1
      clear hii
      go_wp2
      have hm0 : (0 : Int) ≤ (m : Int) := by omega
      have hm1 : (m : Int) < 16 := by omega
      have l1 := pt_lo X m
      have u1 : pt X m ≤ 65535 := by have := pt_lt X m; omega
      obtain ⟨q1, q2⟩ := part_bytes X m
      have E1 : IntKind.u8.wrap (IntKind.i64.wrap ((pt X m).tdiv 256)) = byv X (2 * m + 1) := (conv_hi _ l1 u1).trans q1
      have E2 : IntKind.u8.wrap ((pt X m).tmod 256) = byv X (2 * m) := (conv_lo _ l1).trans q2
      clear q1 q2
      as_aux_lemma =>
      go_region_held3 (fun w' => w'.cell? ⟨g1, m, none⟩ = some (.int .i64 (pt X m)))
        (first
          | go_keep
          | exact (hgrow.cell_far ⟨g1, m, none⟩ ((hp.alloc _).drew).lt (fun e => by have h2 : w1.heap.size ≤ g1 := (hown.lt g1 e.symm).1; omega)).trans (((hp.alloc _).drew).cell hm))
        ((refine step_append_lies _ (by rfl) _ _ _ (by rfl) w1.heap.size 5 i0 _ 1 1 Tryd.underlying40 hi hz0 hz1 hz2 rfl (by omega) _ _ _ (by rfl) ((hown.alloc _).drew)
            ⟨wr.heap.size, 0, none⟩ 2 2 [.int .u8 (byv X (2 * m + 1)), .int .u8 (byv X (2 * m))] (by rfl) (by rfl) (World.news_of_block (cs := #[.int .u8 (byv X (2 * m + 1)), .int .u8 (byv X (2 * m))]) (t := 5) (fr := (0, 0)) (heap_alloc_drew wr _)) (by simp [Value.oneCell'])
            (by omega) (by unfold maxLen; omega) (by omega) (by simp; omega) (wr.heap.size + 1) (by simp) ?_; intro gg cap w4 hown1 hgrow hat hlt))
      all_goals
        go_wp2
        go_roundw
        have hsz5 : w1.heap.size ≤ w4.heap.size := by
          have h6 := hgrow.size
          have h5 : wr.heap.size ≤ (wr.alloc (.cells #[.int .u8 (byv X (2 * m + 1)), .int .u8 (byv X (2 * m))] 5)).drew.heap.size := by
            show wr.heap.size ≤ (wr.alloc _).heap.size
            simp
          omega
        case rel => exact ⟨m, by omega, rfl, by rw [bsL_step X m hm, show 32 - 2 * (m + 1) + 2 = 32 - 2 * m by omega] at hown1; rw [show 32 - 2 * (m + 1) + 2 = 32 - 2 * m by omega]; exact hown1, (hp.alloc _).drew.of_block (hgrow.block g1 ((hp.alloc _).drew).lt (fun e => by have h2 : w1.heap.size ≤ g1 := (hown.lt g1 e.symm).1; omega)), ((hbel.alloc (by omega) _).drew).grown hgrow (by show w.heap.size ≤ (wr.alloc _).heap.size; simp; omega) (fun k e => by have := (hown.lt _ e).1; omega), hsz5⟩
        case measure => simp [intOf]
theorem rbytes_calls (X : Nat) (w : World) :
    Calls Tryd.prog 19 #[.agg #[.int .u64 (wd (X) 0), .int .u64 (wd (X) 1), .int .u64 (wd (X) 2), .int .u64 (wd (X) 3)]] w fun e w' => ∃ g cap, e = .returned (.slice (some ⟨g, 0, none⟩) 32 cap) ∧ 32 ≤ cap ∧ w.heap.size ≤ g ∧ Pre w' g 5 32 (bsv X) ∧ Below w.heap.size w w' := by
  refine (rbytes_own X w).mono ?_
  rintro e w' ⟨g, cap, rfl, hc, hg, ho, hb⟩
  obtain ⟨g', cap', e, _, _, hp⟩ := ho.pre (by omega)
  injection e with e1 _ _
  injection e1 with e2
  injection e2 with e3
  subst e3
  exact ⟨g, cap, rfl, hc, hg, hp, hb⟩
end Go.Proofs.YthgenmoiendakaaDoor
