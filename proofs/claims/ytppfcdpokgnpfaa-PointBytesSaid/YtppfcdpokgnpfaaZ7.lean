/-
  Merged: Q1 Q2 Q3 Q4 Q5 Q6 Q7 Q8.
-/
import Derived.Deep.WholeRow
import Derived.DeepKeys
import Derived.Deep.RegionHeld3
import Derived.BigQuiet
import Derived.Deep.Cut
import Derived.Deep.CutRange
import Derived.Test.YtppfcdpokgnpfaaZ3
import Derived.Test.YtppfcdpokgnpfaaZ1
import Derived.Test.YtppfcdpokgnpfaaZ6

/-
  clapperref05: P, N, b, Base; mul, sub; points as values and rows, '==' between points.
-/
namespace Go.Proofs.Ytppfcdpokgnpfaa
open Go.RowKit

theorem pp_top : Pt.pp < top := by decide +kernel
theorem pp_pos : 0 < Pt.pp := by decide +kernel
theorem pp_lits : wd Pt.pp 0 = 18446744073709551615 ∧ wd Pt.pp 1 = 4294967295 ∧ wd Pt.pp 2 = 0 ∧ wd Pt.pp 3 = 18446744069414584321 := by decide +kernel
theorem nn_lits : wd Pt.nn 0 = 17562291160714782033 ∧ wd Pt.nn 1 = 13611842547513532036 ∧ wd Pt.nn 2 = 18446744073709551615 ∧ wd Pt.nn 3 = 18446744069414584320 := by decide +kernel
theorem bb_lits : wd Pt.bb 0 = 4309448131093880907 ∧ wd Pt.bb 1 = 7285987128567378166 ∧ wd Pt.bb 2 = 12964664127075681980 ∧ wd Pt.bb 3 = 6540974713487397863 := by decide +kernel
theorem gx_lits : wd Pt.gx 0 = 17627433388654248598 ∧ wd Pt.gx 1 = 8575836109218198432 ∧ wd Pt.gx 2 = 17923454489921339634 ∧ wd Pt.gx 3 = 7716867327612699207 := by decide +kernel
theorem gy_lits : wd Pt.gy 0 = 14678990851816772085 ∧ wd Pt.gy 1 = 3156516839386865358 ∧ wd Pt.gy 2 = 10297457778147434006 ∧ wd Pt.gy 3 = 5756518291402817435 := by decide +kernel

theorem info_num : (Try.prog.info? 24).map (·.size) = some 4 := by kernel_rfl
theorem info_pt : (Try.prog.info? 26).map (·.size) = some 9 := by kernel_rfl

set_option maxRecDepth 100000 in
set_option maxHeartbeats 1000000 in
theorem rp_calls (w : World) : Calls Try.prog 15 #[] w fun e w' => e = .returned (.agg #[.int .u64 (wd (Pt.pp) 0), .int .u64 (wd (Pt.pp) 1), .int .u64 (wd (Pt.pp) 2), .int .u64 (wd (Pt.pp) 3)]) ∧ Below w.heap.size w w' := by
  obtain ⟨l0, l1, l2, l3⟩ := pp_lits
  rw [l0, l1, l2, l3]
  clear l0 l1 l2 l3
  go_enter Try.func15, Try.ntmps15
  go_wp2
  exact bodyPost_ret (results_cell_row rfl _ _ w.heap.size 24 #[.int .u64 18446744073709551615, .int .u64 4294967295, .int .u64 0, .int .u64 18446744069414584321] (0, 0) _ rfl (heap_alloc_last w _) Try.underlying24 rfl (by kernel_rfl)) rfl ⟨rfl, (Below.refl _ _).alloc (Nat.le_refl _) _⟩
set_option maxRecDepth 100000 in
set_option maxHeartbeats 1000000 in
theorem rn_calls (w : World) : Calls Try.prog 17 #[] w fun e w' => e = .returned (.agg #[.int .u64 (wd (Pt.nn) 0), .int .u64 (wd (Pt.nn) 1), .int .u64 (wd (Pt.nn) 2), .int .u64 (wd (Pt.nn) 3)]) ∧ Below w.heap.size w w' := by
  obtain ⟨l0, l1, l2, l3⟩ := nn_lits
  rw [l0, l1, l2, l3]
  clear l0 l1 l2 l3
  go_enter Try.func17, Try.ntmps17
  go_wp2
  exact bodyPost_ret (results_cell_row rfl _ _ w.heap.size 24 #[.int .u64 17562291160714782033, .int .u64 13611842547513532036, .int .u64 18446744073709551615, .int .u64 18446744069414584320] (0, 0) _ rfl (heap_alloc_last w _) Try.underlying24 rfl (by kernel_rfl)) rfl ⟨rfl, (Below.refl _ _).alloc (Nat.le_refl _) _⟩
set_option maxRecDepth 100000 in
set_option maxHeartbeats 1000000 in
theorem rb_calls (w : World) : Calls Try.prog 33 #[] w fun e w' => e = .returned (.agg #[.int .u64 (wd (Pt.bb) 0), .int .u64 (wd (Pt.bb) 1), .int .u64 (wd (Pt.bb) 2), .int .u64 (wd (Pt.bb) 3)]) ∧ Below w.heap.size w w' := by
  obtain ⟨l0, l1, l2, l3⟩ := bb_lits
  rw [l0, l1, l2, l3]
  clear l0 l1 l2 l3
  go_enter Try.func33, Try.ntmps33
  go_wp2
  exact bodyPost_ret (results_cell_row rfl _ _ w.heap.size 24 #[.int .u64 4309448131093880907, .int .u64 7285987128567378166, .int .u64 12964664127075681980, .int .u64 6540974713487397863] (0, 0) _ rfl (heap_alloc_last w _) Try.underlying24 rfl (by kernel_rfl)) rfl ⟨rfl, (Below.refl _ _).alloc (Nat.le_refl _) _⟩

/-! ### points: values, rows, '==' -/
/-- Cell j of a point. -/
def pc (X Y : Nat) (f : Bool) (j : Nat) : Value := if j < 4 then .int .u64 (wd X j) else if j < 8 then .int .u64 (wd Y (j - 4)) else .bool f
theorem arr9 (X Y : Nat) (f : Bool) : ∀ i, i < 9 → (#[.int .u64 (wd (X) 0), .int .u64 (wd (X) 1), .int .u64 (wd (X) 2), .int .u64 (wd (X) 3), .int .u64 (wd (Y) 0), .int .u64 (wd (Y) 1), .int .u64 (wd (Y) 2), .int .u64 (wd (Y) 3), .bool (f)] : Array Value)[i]? = some (pc X Y f i)
  | 0, _ => rfl | 1, _ => rfl | 2, _ => rfl | 3, _ => rfl | 4, _ => rfl | 5, _ => rfl | 6, _ => rfl | 7, _ => rfl | 8, _ => rfl
  | n + 9, h => by omega
theorem one9 (X Y : Nat) (f : Bool) : (#[.int .u64 (wd (X) 0), .int .u64 (wd (X) 1), .int .u64 (wd (X) 2), .int .u64 (wd (X) 3), .int .u64 (wd (Y) 0), .int .u64 (wd (Y) 1), .int .u64 (wd (Y) 2), .int .u64 (wd (Y) 3), .bool (f)] : Array Value).all (·.oneCell') = true := by simp [Value.oneCell']
theorem blk9 {w : World} {b t X Y : Nat} {f : Bool} (h : w.rowIs b t 9 (pc X Y f)) : w.heap[b]? = some (.cells #[.int .u64 (wd (X) 0), .int .u64 (wd (X) 1), .int .u64 (wd (X) 2), .int .u64 (wd (X) 3), .int .u64 (wd (Y) 0), .int .u64 (wd (Y) 1), .int .u64 (wd (Y) 2), .int .u64 (wd (Y) 3), .bool (f)] t (0, 0)) := by
  obtain ⟨c, hc, hn, hi⟩ := h
  have e : c = (#[.int .u64 (wd (X) 0), .int .u64 (wd (X) 1), .int .u64 (wd (X) 2), .int .u64 (wd (X) 3), .int .u64 (wd (Y) 0), .int .u64 (wd (Y) 1), .int .u64 (wd (Y) 2), .int .u64 (wd (Y) 3), .bool (f)] : Array Value).toList.toArray := arr_eq (l := (#[.int .u64 (wd (X) 0), .int .u64 (wd (X) 1), .int .u64 (wd (X) 2), .int .u64 (wd (X) 3), .int .u64 (wd (Y) 0), .int .u64 (wd (Y) 1), .int .u64 (wd (Y) 2), .int .u64 (wd (Y) 3), .bool (f)] : Array Value).toList) (by simpa using hn) fun i h9 => by
    have h9' : i < 9 := by simpa using h9
    rw [hi i h9']
    have := arr9 X Y f i h9'
    simpa using this.symm
  rw [hc, e]
theorem pt_new {w : World} {b : Nat} (X Y : Nat) (f : Bool) {t : Nat} (hb : b = w.heap.size) : (w.alloc (.cells #[.int .u64 (wd (X) 0), .int .u64 (wd (X) 1), .int .u64 (wd (X) 2), .int .u64 (wd (X) 3), .int .u64 (wd (Y) 0), .int .u64 (wd (Y) 1), .int .u64 (wd (Y) 2), .int .u64 (wd (Y) 3), .bool (f)] t)).rowIs b t 9 (pc X Y f) := row_new (n := 9) hb rfl (arr9 X Y f)
theorem pt_x {w : World} {b t X Y : Nat} {f : Bool} (h : w.rowIs b t 9 (pc X Y f)) : w.cell? ⟨b, 0, none⟩ = some (.int .u64 (wd X 0)) ∧ w.cell? ⟨b, 1, none⟩ = some (.int .u64 (wd X 1)) ∧ w.cell? ⟨b, 2, none⟩ = some (.int .u64 (wd X 2)) ∧ w.cell? ⟨b, 3, none⟩ = some (.int .u64 (wd X 3)) :=
  ⟨h.cell (by decide), h.cell (by decide), h.cell (by decide), h.cell (by decide)⟩
theorem pt_y {w : World} {b t X Y : Nat} {f : Bool} (h : w.rowIs b t 9 (pc X Y f)) : w.cell? ⟨b, 4, none⟩ = some (.int .u64 (wd Y 0)) ∧ w.cell? ⟨b, 5, none⟩ = some (.int .u64 (wd Y 1)) ∧ w.cell? ⟨b, 6, none⟩ = some (.int .u64 (wd Y 2)) ∧ w.cell? ⟨b, 7, none⟩ = some (.int .u64 (wd Y 3)) :=
  ⟨h.cell (by decide), h.cell (by decide), h.cell (by decide), h.cell (by decide)⟩
theorem pt_f {w : World} {b t X Y : Nat} {f : Bool} (h : w.rowIs b t 9 (pc X Y f)) : w.cell? ⟨b, 8, none⟩ = some (.bool f) := h.cell (by decide)

theorem lits_word (X i : Nat) (D : Nat) : Try.prog.keyLits (D + 1) 22 [.int .u64 (wd X i)] = some [.int .u64 (wd X i)] := by
  have h0 := wd_lo X i
  have h1 := wd_le X i
  have hw : (Lit.int .u64 (wd X i)).wf = true := by
    simp only [Lit.wf, Bool.and_eq_true, decide_eq_true_eq]
    have e1 : IntKind.u64.min = 0 := rfl
    have e2 : IntKind.u64.max = 18446744073709551615 := rfl
    omega
  simp [Program.keyLits, Try.underlying22, hw]
theorem cells_word : Try.prog.cellsOf 22 = 1 := by kernel_rfl
theorem cells_num : Try.prog.cellsOf 24 = 4 := by kernel_rfl
theorem cells_pt : Try.prog.cellsOf 26 = 9 := by kernel_rfl
theorem cells_bool : Try.prog.cellsOf 4 = 1 := by kernel_rfl
theorem lits_num (X : Nat) (D : Nat) : Try.prog.keyLits (D + 2) 24 [.int .u64 (wd X 0), .int .u64 (wd X 1), .int .u64 (wd X 2), .int .u64 (wd X 3)] = some [.int .u64 (wd X 0), .int .u64 (wd X 1), .int .u64 (wd X 2), .int .u64 (wd X 3)] := by
  unfold Program.keyLits
  simp [Try.underlying24, cells_num, cells_word, List.range_succ, lits_word]
theorem lits_bool (f : Bool) (D : Nat) : Try.prog.keyLits (D + 2) 4 [.bool f] = some [.bool f] := by
  unfold Program.keyLits
  simp [Try.underlying4]
set_option maxRecDepth 100000 in
theorem lits_pt (X Y : Nat) (f : Bool) (D : Nat) : Try.prog.keyLits (D + 3) 26 (#[.int .u64 (wd (X) 0), .int .u64 (wd (X) 1), .int .u64 (wd (X) 2), .int .u64 (wd (X) 3), .int .u64 (wd (Y) 0), .int .u64 (wd (Y) 1), .int .u64 (wd (Y) 2), .int .u64 (wd (Y) 3), .bool (f)] : Array Value).toList = some [.int .u64 (wd X 0), .int .u64 (wd X 1), .int .u64 (wd X 2), .int .u64 (wd X 3), .int .u64 (wd Y 0), .int .u64 (wd Y 1), .int .u64 (wd Y 2), .int .u64 (wd Y 3), .bool f] := by
  unfold Program.keyLits
  simp [Try.underlying26, cells_pt, cells_num, cells_bool, lits_num, lits_bool]
theorem wd_inj {X Y : Nat} (hX : X < top) (hY : Y < top) (h0 : wd X 0 = wd Y 0) (h1 : wd X 1 = wd Y 1) (h2 : wd X 2 = wd Y 2) (h3 : wd X 3 = wd Y 3) : X = Y := by
  have h := (all_wd 4 X Y).symm
  have ha : ((List.range 4).all fun i => wd X i == wd Y i) = true := by
    simp [List.range_succ, h0, h1, h2, h3]
  rw [ha] at h
  have h5 := of_decide_eq_true h
  rw [Nat.mod_eq_of_lt (show X < w64 ^ 4 from hX), Nat.mod_eq_of_lt (show Y < w64 ^ 4 from hY)] at h5
  exact h5
set_option maxRecDepth 100000 in
theorem eql_pt {X Y X' Y' : Nat} (hX : X < top) (hY : Y < top) (hX' : X' < top) (hY' : Y' < top) (f f' : Bool) (w : World) : (binOp .eql 26 (.agg #[.int .u64 (wd (X) 0), .int .u64 (wd (X) 1), .int .u64 (wd (X) 2), .int .u64 (wd (X) 3), .int .u64 (wd (Y) 0), .int .u64 (wd (Y) 1), .int .u64 (wd (Y) 2), .int .u64 (wd (Y) 3), .bool (f)]) (.agg #[.int .u64 (wd (X') 0), .int .u64 (wd (X') 1), .int .u64 (wd (X') 2), .int .u64 (wd (X') 3), .int .u64 (wd (Y') 0), .int .u64 (wd (Y') 1), .int .u64 (wd (Y') 2), .int .u64 (wd (Y') 3), .bool (f')])).run Try.prog w = .ok (.bool (decide (X = X' ∧ Y = Y' ∧ f = f'))) w := by
  rw [run_eql_struct]
  obtain ⟨r, hr, hiff⟩ := run_equalIn_deep (P := Try.prog) 9990 10 26 (by kernel_rfl) w 10000 10000 (.agg #[.int .u64 (wd (X) 0), .int .u64 (wd (X) 1), .int .u64 (wd (X) 2), .int .u64 (wd (X) 3), .int .u64 (wd (Y) 0), .int .u64 (wd (Y) 1), .int .u64 (wd (Y) 2), .int .u64 (wd (Y) 3), .bool (f)]) (.agg #[.int .u64 (wd (X') 0), .int .u64 (wd (X') 1), .int .u64 (wd (X') 2), .int .u64 (wd (X') 3), .int .u64 (wd (Y') 0), .int .u64 (wd (Y') 1), .int .u64 (wd (Y') 2), .int .u64 (wd (Y') 3), .bool (f')]) _ _ (by simp [Value.formed, Try.underlying26, cells_pt]) (by simp [Value.formed, Try.underlying26, cells_pt]) (lits_pt X Y f 9997) (lits_pt X' Y' f' 9997)
  rw [hr, Result.andThen_ok]
  congr 2
  have hd : r = true ↔ (X = X' ∧ Y = Y' ∧ f = f') := by
    rw [hiff]
    simp only [List.cons.injEq, Lit.int.injEq, Lit.bool.injEq, true_and, and_true]
    constructor
    · rintro ⟨a0, a1, a2, a3, b0, b1, b2, b3, c⟩
      exact ⟨wd_inj hX hX' a0 a1 a2 a3, wd_inj hY hY' b0 b1 b2 b3, c⟩
    · rintro ⟨rfl, rfl, rfl⟩
      exact ⟨rfl, rfl, rfl, rfl, rfl, rfl, rfl, rfl, rfl⟩
  cases r with
  | true => exact (decide_eq_true (hd.1 rfl)).symm
  | false => exact (decide_eq_false fun h => by have := hd.2 h; cases this).symm
end Go.Proofs.Ytppfcdpokgnpfaa


/-
  clapperref05.mul, sub: products and differences modulo p.
-/
namespace Go.Proofs.Ytppfcdpokgnpfaa
open Go.RowKit

set_option maxRecDepth 100000 in
set_option maxHeartbeats 4000000 in
/-- The product. -/
theorem rmul_is (X Y Z : Nat) (hX : X < Pt.pp) (hY : Y < top) (hZ : Z = X * Y % Pt.pp) (w : World) :
    Calls Try.prog 30 #[.agg #[.int .u64 (wd (X) 0), .int .u64 (wd (X) 1), .int .u64 (wd (X) 2), .int .u64 (wd (X) 3)], .agg #[.int .u64 (wd (Y) 0), .int .u64 (wd (Y) 1), .int .u64 (wd (Y) 2), .int .u64 (wd (Y) 3)]] w fun e w' => e = .returned (.agg #[.int .u64 (wd (Z) 0), .int .u64 (wd (Z) 1), .int .u64 (wd (Z) 2), .int .u64 (wd (Z) 3)]) ∧ Below w.heap.size w w' := by
  obtain ⟨M, hM⟩ : ∃ M, M = Pt.pp := ⟨_, rfl⟩
  have HG := veil (show ∀ W, Calls Try.prog 52 #[.agg #[.int .u64 (wd (X) 0), .int .u64 (wd (X) 1), .int .u64 (wd (X) 2), .int .u64 (wd (X) 3)], .agg #[.int .u64 (wd (Y) 0), .int .u64 (wd (Y) 1), .int .u64 (wd (Y) 2), .int .u64 (wd (Y) 3)], .agg #[.int .u64 (wd (M) 0), .int .u64 (wd (M) 1), .int .u64 (wd (M) 2), .int .u64 (wd (M) 3)]] W fun e W' => e = .returned (.agg #[.int .u64 (wd (Z) 0), .int .u64 (wd (Z) 1), .int .u64 (wd (Z) 2), .int .u64 (wd (Z) 3)]) ∧ Below W.heap.size W W' from fun W => by rw [hM, hZ]; exact gmul_calls X Y Pt.pp hX hY pp_top W)
  have HP := veil (show ∀ W, Calls Try.prog 15 #[] W fun e W' => e = .returned (.agg #[.int .u64 (wd (M) 0), .int .u64 (wd (M) 1), .int .u64 (wd (M) 2), .int .u64 (wd (M) 3)]) ∧ Below W.heap.size W W' from fun W => by rw [hM]; exact rp_calls W)
  clear hM hZ
  have hRX : (((w.alloc (.cells #[.int .u64 (wd (X) 0), .int .u64 (wd (X) 1), .int .u64 (wd (X) 2), .int .u64 (wd (X) 3)] 24)).alloc (.cells #[.int .u64 (wd (Y) 0), .int .u64 (wd (Y) 1), .int .u64 (wd (Y) 2), .int .u64 (wd (Y) 3)] 24)).alloc (.cells #[.int .u64 0, .int .u64 0, .int .u64 0, .int .u64 0] 24)).rowIs w.heap.size 24 4 (fun j => .int .u64 (wd X j)) := ((row_new (n := 4) rfl rfl (arr4 fun j => .int .u64 (wd X j))).alloc _).alloc _
  have hRY : (((w.alloc (.cells #[.int .u64 (wd (X) 0), .int .u64 (wd (X) 1), .int .u64 (wd (X) 2), .int .u64 (wd (X) 3)] 24)).alloc (.cells #[.int .u64 (wd (Y) 0), .int .u64 (wd (Y) 1), .int .u64 (wd (Y) 2), .int .u64 (wd (Y) 3)] 24)).alloc (.cells #[.int .u64 0, .int .u64 0, .int .u64 0, .int .u64 0] 24)).rowIs (w.heap.size + 1) 24 4 (fun j => .int .u64 (wd Y j)) := (row_new (n := 4) (by simp) rfl (arr4 fun j => .int .u64 (wd Y j))).alloc _
  have hRR : (((w.alloc (.cells #[.int .u64 (wd (X) 0), .int .u64 (wd (X) 1), .int .u64 (wd (X) 2), .int .u64 (wd (X) 3)] 24)).alloc (.cells #[.int .u64 (wd (Y) 0), .int .u64 (wd (Y) 1), .int .u64 (wd (Y) 2), .int .u64 (wd (Y) 3)] 24)).alloc (.cells #[.int .u64 0, .int .u64 0, .int .u64 0, .int .u64 0] 24)).rowIs (w.heap.size + 1 + 1) 24 4 (fun _ => .int .u64 0) := row_new (n := 4) (by simp) rfl (arr4 fun _ => .int .u64 0)
  have hB0 : Below w.heap.size w (((w.alloc (.cells #[.int .u64 (wd (X) 0), .int .u64 (wd (X) 1), .int .u64 (wd (X) 2), .int .u64 (wd (X) 3)] 24)).alloc (.cells #[.int .u64 (wd (Y) 0), .int .u64 (wd (Y) 1), .int .u64 (wd (Y) 2), .int .u64 (wd (Y) 3)] 24)).alloc (.cells #[.int .u64 0, .int .u64 0, .int .u64 0, .int .u64 0] 24)) := (((Below.refl _ _).alloc (by simp) _).alloc (by simp) _).alloc (by simp; omega) _
  go_enter Try.func30, Try.ntmps30
  go_upto_region 1 with (fail)
  generalize (((w.alloc (.cells #[.int .u64 (wd (X) 0), .int .u64 (wd (X) 1), .int .u64 (wd (X) 2), .int .u64 (wd (X) 3)] 24)).alloc (.cells #[.int .u64 (wd (Y) 0), .int .u64 (wd (Y) 1), .int .u64 (wd (Y) 2), .int .u64 (wd (Y) 3)] 24)).alloc (.cells #[.int .u64 0, .int .u64 0, .int .u64 0, .int .u64 0] 24)) = wz at *
  obtain ⟨x0, x1, x2, x3⟩ := row_c4 hRX
  obtain ⟨y0, y1, y2, y3⟩ := row_c4 hRY
  have l1 := hRX.lt
  have l2 := hRY.lt
  have sB : ∀ W, Bt (w.heap.size + 1 + 1) 24 4 wz W → (Bt (w.heap.size + 1 + 1) 24 4 wz W ∧ W.cell? ⟨w.heap.size, 0, none⟩ = some (.int .u64 (wd X 0)) ∧ W.cell? ⟨w.heap.size, 1, none⟩ = some (.int .u64 (wd X 1)) ∧ W.cell? ⟨w.heap.size, 2, none⟩ = some (.int .u64 (wd X 2)) ∧ W.cell? ⟨w.heap.size, 3, none⟩ = some (.int .u64 (wd X 3)) ∧ W.cell? ⟨(w.heap.size + 1), 0, none⟩ = some (.int .u64 (wd Y 0)) ∧ W.cell? ⟨(w.heap.size + 1), 1, none⟩ = some (.int .u64 (wd Y 1)) ∧ W.cell? ⟨(w.heap.size + 1), 2, none⟩ = some (.int .u64 (wd Y 2)) ∧ W.cell? ⟨(w.heap.size + 1), 3, none⟩ = some (.int .u64 (wd Y 3))) := fun W hB => ⟨hB, (hB.cell l1 (by omega)).trans x0, (hB.cell l1 (by omega)).trans x1, (hB.cell l1 (by omega)).trans x2, (hB.cell l1 (by omega)).trans x3, (hB.cell l2 (by omega)).trans y0, (hB.cell l2 (by omega)).trans y1, (hB.cell l2 (by omega)).trans y2, (hB.cell l2 (by omega)).trans y3⟩
  have hS0 := sB wz (.of hRR (But.refl _ _))
  have SB := veil sB
  have HB0 := veil hB0
  clear sB hB0 hRX hRY hRR
  go_region_held3 (fun W => Bt (w.heap.size + 1 + 1) 24 4 wz W ∧ W.cell? ⟨w.heap.size, 0, none⟩ = some (.int .u64 (wd X 0)) ∧ W.cell? ⟨w.heap.size, 1, none⟩ = some (.int .u64 (wd X 1)) ∧ W.cell? ⟨w.heap.size, 2, none⟩ = some (.int .u64 (wd X 2)) ∧ W.cell? ⟨w.heap.size, 3, none⟩ = some (.int .u64 (wd X 3)) ∧ W.cell? ⟨(w.heap.size + 1), 0, none⟩ = some (.int .u64 (wd Y 0)) ∧ W.cell? ⟨(w.heap.size + 1), 1, none⟩ = some (.int .u64 (wd Y 1)) ∧ W.cell? ⟨(w.heap.size + 1), 2, none⟩ = some (.int .u64 (wd Y 2)) ∧ W.cell? ⟨(w.heap.size + 1), 3, none⟩ = some (.int .u64 (wd Y 3)))
    (first
      | with_reducible assumption
      | exact hS0
      | exact SB.out _ hS0.1.drew
      | exact SB.out _ ((((hb2.set 0 _).set 1 _).set 2 _).set 3 _))
    (first
      | (go_at_call 15; (with_reducible refine (HP.out _).mono ?_); rintro e w1 ⟨rfl, hb⟩; have hb1 := hS0.1.drew.call hb; have hS1 := SB.out _ hb1; clear hb)
      | (go_at_call 52; (with_reducible refine (HG.out _).mono ?_); rintro e w2 ⟨rfl, hb⟩; have hb2 := hb1.call hb; have hS2 := SB.out _ hb2; clear hb; obtain ⟨fz, hz⟩ := hb2.2; have HZ := veil hz; obtain ⟨z0, z1, z2, z3⟩ := row_c4 hz; obtain ⟨f0, f1, f2, f3⟩ := row_f4 hz; clear hz))
  clear z0 z1 z2 z3 f0 f1 f2 f3 x0 x1 x2 x3 y0 y1 y2 y3
  go_wp2
  exact bodyPost_ret (results_cell_row rfl _ _ (w.heap.size + 1 + 1) 24 #[.int .u64 (wd (Z) 0), .int .u64 (wd (Z) 1), .int .u64 (wd (Z) 2), .int .u64 (wd (Z) 3)] (0, 0) _ rfl (blk4 (put4 HZ.out fun j => .int .u64 (wd Z j))) Try.underlying24 rfl (by kernel_rfl)) rfl ⟨rfl, below_put4 (HB0.out.trans (hb2.below (by omega) HB0.out.size)) (by omega) _ _ _ _⟩
set_option maxRecDepth 100000 in
set_option maxHeartbeats 4000000 in
/-- The difference. -/
theorem rsub_is (X Y Z : Nat) (hX : X < Pt.pp) (hY : Y < Pt.pp) (hZ : Z = (X + Pt.pp - Y) % Pt.pp) (w : World) :
    Calls Try.prog 32 #[.agg #[.int .u64 (wd (X) 0), .int .u64 (wd (X) 1), .int .u64 (wd (X) 2), .int .u64 (wd (X) 3)], .agg #[.int .u64 (wd (Y) 0), .int .u64 (wd (Y) 1), .int .u64 (wd (Y) 2), .int .u64 (wd (Y) 3)]] w fun e w' => e = .returned (.agg #[.int .u64 (wd (Z) 0), .int .u64 (wd (Z) 1), .int .u64 (wd (Z) 2), .int .u64 (wd (Z) 3)]) ∧ Below w.heap.size w w' := by
  obtain ⟨M, hM⟩ : ∃ M, M = Pt.pp := ⟨_, rfl⟩
  have HG := veil (show ∀ W, Calls Try.prog 56 #[.agg #[.int .u64 (wd (X) 0), .int .u64 (wd (X) 1), .int .u64 (wd (X) 2), .int .u64 (wd (X) 3)], .agg #[.int .u64 (wd (Y) 0), .int .u64 (wd (Y) 1), .int .u64 (wd (Y) 2), .int .u64 (wd (Y) 3)], .agg #[.int .u64 (wd (M) 0), .int .u64 (wd (M) 1), .int .u64 (wd (M) 2), .int .u64 (wd (M) 3)]] W fun e W' => e = .returned (.agg #[.int .u64 (wd (Z) 0), .int .u64 (wd (Z) 1), .int .u64 (wd (Z) 2), .int .u64 (wd (Z) 3)]) ∧ Below W.heap.size W W' from fun W => by rw [hM, hZ]; exact gsub_calls X Y Pt.pp hX hY pp_top W)
  have HP := veil (show ∀ W, Calls Try.prog 15 #[] W fun e W' => e = .returned (.agg #[.int .u64 (wd (M) 0), .int .u64 (wd (M) 1), .int .u64 (wd (M) 2), .int .u64 (wd (M) 3)]) ∧ Below W.heap.size W W' from fun W => by rw [hM]; exact rp_calls W)
  clear hM hZ
  have hRX : (((w.alloc (.cells #[.int .u64 (wd (X) 0), .int .u64 (wd (X) 1), .int .u64 (wd (X) 2), .int .u64 (wd (X) 3)] 24)).alloc (.cells #[.int .u64 (wd (Y) 0), .int .u64 (wd (Y) 1), .int .u64 (wd (Y) 2), .int .u64 (wd (Y) 3)] 24)).alloc (.cells #[.int .u64 0, .int .u64 0, .int .u64 0, .int .u64 0] 24)).rowIs w.heap.size 24 4 (fun j => .int .u64 (wd X j)) := ((row_new (n := 4) rfl rfl (arr4 fun j => .int .u64 (wd X j))).alloc _).alloc _
  have hRY : (((w.alloc (.cells #[.int .u64 (wd (X) 0), .int .u64 (wd (X) 1), .int .u64 (wd (X) 2), .int .u64 (wd (X) 3)] 24)).alloc (.cells #[.int .u64 (wd (Y) 0), .int .u64 (wd (Y) 1), .int .u64 (wd (Y) 2), .int .u64 (wd (Y) 3)] 24)).alloc (.cells #[.int .u64 0, .int .u64 0, .int .u64 0, .int .u64 0] 24)).rowIs (w.heap.size + 1) 24 4 (fun j => .int .u64 (wd Y j)) := (row_new (n := 4) (by simp) rfl (arr4 fun j => .int .u64 (wd Y j))).alloc _
  have hRR : (((w.alloc (.cells #[.int .u64 (wd (X) 0), .int .u64 (wd (X) 1), .int .u64 (wd (X) 2), .int .u64 (wd (X) 3)] 24)).alloc (.cells #[.int .u64 (wd (Y) 0), .int .u64 (wd (Y) 1), .int .u64 (wd (Y) 2), .int .u64 (wd (Y) 3)] 24)).alloc (.cells #[.int .u64 0, .int .u64 0, .int .u64 0, .int .u64 0] 24)).rowIs (w.heap.size + 1 + 1) 24 4 (fun _ => .int .u64 0) := row_new (n := 4) (by simp) rfl (arr4 fun _ => .int .u64 0)
  have hB0 : Below w.heap.size w (((w.alloc (.cells #[.int .u64 (wd (X) 0), .int .u64 (wd (X) 1), .int .u64 (wd (X) 2), .int .u64 (wd (X) 3)] 24)).alloc (.cells #[.int .u64 (wd (Y) 0), .int .u64 (wd (Y) 1), .int .u64 (wd (Y) 2), .int .u64 (wd (Y) 3)] 24)).alloc (.cells #[.int .u64 0, .int .u64 0, .int .u64 0, .int .u64 0] 24)) := (((Below.refl _ _).alloc (by simp) _).alloc (by simp) _).alloc (by simp; omega) _
  go_enter Try.func32, Try.ntmps32
  go_upto_region 1 with (fail)
  generalize (((w.alloc (.cells #[.int .u64 (wd (X) 0), .int .u64 (wd (X) 1), .int .u64 (wd (X) 2), .int .u64 (wd (X) 3)] 24)).alloc (.cells #[.int .u64 (wd (Y) 0), .int .u64 (wd (Y) 1), .int .u64 (wd (Y) 2), .int .u64 (wd (Y) 3)] 24)).alloc (.cells #[.int .u64 0, .int .u64 0, .int .u64 0, .int .u64 0] 24)) = wz at *
  obtain ⟨x0, x1, x2, x3⟩ := row_c4 hRX
  obtain ⟨y0, y1, y2, y3⟩ := row_c4 hRY
  have l1 := hRX.lt
  have l2 := hRY.lt
  have sB : ∀ W, Bt (w.heap.size + 1 + 1) 24 4 wz W → (Bt (w.heap.size + 1 + 1) 24 4 wz W ∧ W.cell? ⟨w.heap.size, 0, none⟩ = some (.int .u64 (wd X 0)) ∧ W.cell? ⟨w.heap.size, 1, none⟩ = some (.int .u64 (wd X 1)) ∧ W.cell? ⟨w.heap.size, 2, none⟩ = some (.int .u64 (wd X 2)) ∧ W.cell? ⟨w.heap.size, 3, none⟩ = some (.int .u64 (wd X 3)) ∧ W.cell? ⟨(w.heap.size + 1), 0, none⟩ = some (.int .u64 (wd Y 0)) ∧ W.cell? ⟨(w.heap.size + 1), 1, none⟩ = some (.int .u64 (wd Y 1)) ∧ W.cell? ⟨(w.heap.size + 1), 2, none⟩ = some (.int .u64 (wd Y 2)) ∧ W.cell? ⟨(w.heap.size + 1), 3, none⟩ = some (.int .u64 (wd Y 3))) := fun W hB => ⟨hB, (hB.cell l1 (by omega)).trans x0, (hB.cell l1 (by omega)).trans x1, (hB.cell l1 (by omega)).trans x2, (hB.cell l1 (by omega)).trans x3, (hB.cell l2 (by omega)).trans y0, (hB.cell l2 (by omega)).trans y1, (hB.cell l2 (by omega)).trans y2, (hB.cell l2 (by omega)).trans y3⟩
  have hS0 := sB wz (.of hRR (But.refl _ _))
  have SB := veil sB
  have HB0 := veil hB0
  clear sB hB0 hRX hRY hRR
  go_region_held3 (fun W => Bt (w.heap.size + 1 + 1) 24 4 wz W ∧ W.cell? ⟨w.heap.size, 0, none⟩ = some (.int .u64 (wd X 0)) ∧ W.cell? ⟨w.heap.size, 1, none⟩ = some (.int .u64 (wd X 1)) ∧ W.cell? ⟨w.heap.size, 2, none⟩ = some (.int .u64 (wd X 2)) ∧ W.cell? ⟨w.heap.size, 3, none⟩ = some (.int .u64 (wd X 3)) ∧ W.cell? ⟨(w.heap.size + 1), 0, none⟩ = some (.int .u64 (wd Y 0)) ∧ W.cell? ⟨(w.heap.size + 1), 1, none⟩ = some (.int .u64 (wd Y 1)) ∧ W.cell? ⟨(w.heap.size + 1), 2, none⟩ = some (.int .u64 (wd Y 2)) ∧ W.cell? ⟨(w.heap.size + 1), 3, none⟩ = some (.int .u64 (wd Y 3)))
    (first
      | with_reducible assumption
      | exact hS0
      | exact SB.out _ hS0.1.drew
      | exact SB.out _ ((((hb2.set 0 _).set 1 _).set 2 _).set 3 _))
    (first
      | (go_at_call 15; (with_reducible refine (HP.out _).mono ?_); rintro e w1 ⟨rfl, hb⟩; have hb1 := hS0.1.drew.call hb; have hS1 := SB.out _ hb1; clear hb)
      | (go_at_call 56; (with_reducible refine (HG.out _).mono ?_); rintro e w2 ⟨rfl, hb⟩; have hb2 := hb1.call hb; have hS2 := SB.out _ hb2; clear hb; obtain ⟨fz, hz⟩ := hb2.2; have HZ := veil hz; obtain ⟨z0, z1, z2, z3⟩ := row_c4 hz; obtain ⟨f0, f1, f2, f3⟩ := row_f4 hz; clear hz))
  clear z0 z1 z2 z3 f0 f1 f2 f3 x0 x1 x2 x3 y0 y1 y2 y3
  go_wp2
  exact bodyPost_ret (results_cell_row rfl _ _ (w.heap.size + 1 + 1) 24 #[.int .u64 (wd (Z) 0), .int .u64 (wd (Z) 1), .int .u64 (wd (Z) 2), .int .u64 (wd (Z) 3)] (0, 0) _ rfl (blk4 (put4 HZ.out fun j => .int .u64 (wd Z j))) Try.underlying24 rfl (by kernel_rfl)) rfl ⟨rfl, below_put4 (HB0.out.trans (hb2.below (by omega) HB0.out.size)) (by omega) _ _ _ _⟩
end Go.Proofs.Ytppfcdpokgnpfaa


/-
  clapperref05.On: whether a point is on the curve.
-/
namespace Go.Proofs.Ytppfcdpokgnpfaa
open Go.RowKit

/-- The right side of the curve's equation, in numbers. -/
def rightN (X : Nat) : Nat := ((X * X % Pt.pp * X % Pt.pp + Pt.pp - 3 * X % Pt.pp) % Pt.pp + Pt.bb) % Pt.pp
/-- Whether a point is on the curve, in numbers. -/
def onB (X Y : Nat) (f : Bool) : Bool := if f then decide (X = 0) && decide (Y = 0) else decide (X < Pt.pp) && (decide (Y < Pt.pp) && decide (Y * Y % Pt.pp = rightN X))

set_option maxRecDepth 100000 in
theorem eql_zero {X : Nat} (hX : X < top) (w : World) : (binOp .eql 24 (.agg #[.int .u64 (wd (X) 0), .int .u64 (wd (X) 1), .int .u64 (wd (X) 2), .int .u64 (wd (X) 3)]) (.agg #[.int .u64 0, .int .u64 0, .int .u64 0, .int .u64 0])).run Try.prog w = .ok (.bool (decide (X = 0))) w := by
  have h := eql_num hX (show 0 < top by decide) w
  have e0 : ∀ i, wd 0 i = 0 := by intro i; unfold wd dg; simp
  simp only [e0] at h
  exact h

set_option maxRecDepth 100000 in
set_option maxHeartbeats 4000000 in
theorem ron_far (X Y : Nat) (hX : X < top) (hY : Y < top) (w : World) :
    Calls Try.prog 10 #[.agg #[.int .u64 (wd (X) 0), .int .u64 (wd (X) 1), .int .u64 (wd (X) 2), .int .u64 (wd (X) 3), .int .u64 (wd (Y) 0), .int .u64 (wd (Y) 1), .int .u64 (wd (Y) 2), .int .u64 (wd (Y) 3), .bool (true)]] w fun e w' => e = .returned (.bool (decide (X = 0) && decide (Y = 0))) ∧ Below w.heap.size w w' := by
  have hR := pt_new (w := w) (b := w.heap.size) X Y true (t := 26) rfl
  have hB : Below w.heap.size w (w.alloc (.cells #[.int .u64 (wd (X) 0), .int .u64 (wd (X) 1), .int .u64 (wd (X) 2), .int .u64 (wd (X) 3), .int .u64 (wd (Y) 0), .int .u64 (wd (Y) 1), .int .u64 (wd (Y) 2), .int .u64 (wd (Y) 3), .bool (true)] 26)) := (Below.refl _ _).alloc (Nat.le_refl _) _
  obtain ⟨x0, x1, x2, x3⟩ := pt_x hR
  obtain ⟨y0, y1, y2, y3⟩ := pt_y hR
  have f0 := pt_f hR
  have kx := fun W => eql_zero hX W
  have ky := fun W => eql_zero hY W
  obtain ⟨bx, hbx⟩ : ∃ b, b = decide (X = 0) := ⟨_, rfl⟩
  obtain ⟨by', hby⟩ : ∃ b, b = decide (Y = 0) := ⟨_, rfl⟩
  rw [← hbx] at kx ⊢
  rw [← hby] at ky ⊢
  clear hbx hby hR hX hY
  cases bx
  all_goals
    go_enter Try.func10, Try.ntmps10
    go_upto_region 1 with (fail)
    generalize w.alloc (.cells #[.int .u64 (wd (X) 0), .int .u64 (wd (X) 1), .int .u64 (wd (X) 2), .int .u64 (wd (X) 3), .int .u64 (wd (Y) 0), .int .u64 (wd (Y) 1), .int .u64 (wd (Y) 2), .int .u64 (wd (Y) 3), .bool (true)] 26) = wz at *
    go_wp2
    go_ret
    exact ⟨by simp, hB⟩

set_option maxRecDepth 100000 in
set_option maxHeartbeats 4000000 in
theorem ron_out (X Y : Nat) (hX : X < top) (hlt : ¬ X < Pt.pp) (w : World) :
    Calls Try.prog 10 #[.agg #[.int .u64 (wd (X) 0), .int .u64 (wd (X) 1), .int .u64 (wd (X) 2), .int .u64 (wd (X) 3), .int .u64 (wd (Y) 0), .int .u64 (wd (Y) 1), .int .u64 (wd (Y) 2), .int .u64 (wd (Y) 3), .bool (false)]] w fun e w' => e = .returned (.bool false) ∧ Below w.heap.size w w' := by
  have hR := pt_new (w := w) (b := w.heap.size) X Y false (t := 26) rfl
  have hB : Below w.heap.size w (w.alloc (.cells #[.int .u64 (wd (X) 0), .int .u64 (wd (X) 1), .int .u64 (wd (X) 2), .int .u64 (wd (X) 3), .int .u64 (wd (Y) 0), .int .u64 (wd (Y) 1), .int .u64 (wd (Y) 2), .int .u64 (wd (Y) 3), .bool (false)] 26)) := (Below.refl _ _).alloc (Nat.le_refl _) _
  obtain ⟨x0, x1, x2, x3⟩ := pt_x hR
  have f0 := pt_f hR
  have lz := hR.lt
  obtain ⟨M, hM⟩ : ∃ M, M = Pt.pp := ⟨_, rfl⟩
  have HP := veil (show ∀ W, Calls Try.prog 15 #[] W fun e W' => e = .returned (.agg #[.int .u64 (wd (M) 0), .int .u64 (wd (M) 1), .int .u64 (wd (M) 2), .int .u64 (wd (M) 3)]) ∧ Below W.heap.size W W' from fun W => by rw [hM]; exact rp_calls W)
  rw [← hM] at hlt
  have hMt : M < top := by rw [hM]; exact pp_top
  clear hM
  have hc : cmpN X M = 0 ∨ cmpN X M = 1 := by
    unfold cmpN
    rw [if_neg (by omega)]
    split <;> simp
  obtain ⟨c, hcc⟩ : ∃ c, c = cmpN X M := ⟨_, rfl⟩
  rw [← hcc] at hc
  have HC := veil (show ∀ W, Calls Try.prog 29 #[.agg #[.int .u64 (wd (X) 0), .int .u64 (wd (X) 1), .int .u64 (wd (X) 2), .int .u64 (wd (X) 3)], .agg #[.int .u64 (wd (M) 0), .int .u64 (wd (M) 1), .int .u64 (wd (M) 2), .int .u64 (wd (M) 3)]] W fun e W' => e = .returned (.int .i64 c) ∧ Below W.heap.size W W' from fun W => by rw [hcc]; exact rcmp_calls X M hX hMt W)
  clear hcc hlt hX hMt hR
  rcases hc with rfl | rfl
  all_goals
    go_enter Try.func10, Try.ntmps10
    go_upto_region 3 with (fail)
    generalize w.alloc (.cells #[.int .u64 (wd (X) 0), .int .u64 (wd (X) 1), .int .u64 (wd (X) 2), .int .u64 (wd (X) 3), .int .u64 (wd (Y) 0), .int .u64 (wd (Y) 1), .int .u64 (wd (Y) 2), .int .u64 (wd (Y) 3), .bool (false)] 26) = wz at *
    refine wp_region_held_drew (S := fun w' => (∀ b o, b < wz.heap.size → w'.cell? ⟨b, o, none⟩ = wz.cell? ⟨b, o, none⟩) ∧ Below wz.heap.size wz w') (by kernel_rfl) (keep_drew _) (fun hH => ?_)
    repeat
      ((first
          | (refine wpAnyH_take (i := 0) (v := .pointer (some ⟨w.heap.size, 0, none⟩)) rfl (by kernel_rfl) (by kernel_rfl) (by decide +kernel) (fun _ _ _ h => h) (Or.inl ⟨by rfl, fun W hSw => (by dsimp only at hSw; go_simp)⟩) (by with_reducible assumption) ?_)
          | (refine wpAnyH_take (i := 1) (v := .agg #[.int .u64 (wd (X) 0), .int .u64 (wd (X) 1), .int .u64 (wd (X) 2), .int .u64 (wd (X) 3)]) rfl (by kernel_rfl) (by kernel_rfl) (by decide +kernel) (fun _ _ _ h => h) (Or.inl ⟨by rfl, fun W hSw => (by dsimp only at hSw; go_simp)⟩) (by with_reducible assumption) ?_)
          | (refine wpAnyH_ready (rs := [2]) (by decide +kernel) (by simp) ?_; refine AllReadyH.cons rfl (fun K hK => ?_) AllReadyH.nil; go_simp; refine (HP.out _).mono ?_; rintro e w1 ⟨rfl, hb⟩; refine hK.out _ _ (keep_old hb hH) (fun hH => ?_); clear hK K)
          | (refine wpAnyH_ready (rs := [3]) (by decide +kernel) (by simp) ?_; refine AllReadyH.cons rfl (fun K hK => ?_) AllReadyH.nil; go_simp; refine (HC.out _).mono ?_; rintro e w2 ⟨rfl, hb⟩; refine hK.out _ _ (keep_old hb hH) (fun hH => ?_); clear hK K)
          | (refine wpAnyH_take (i := 4) (v := .bool true) rfl (by kernel_rfl) (by kernel_rfl) (by decide +kernel) (fun _ _ _ h => h) (Or.inl ⟨by rfl, fun W hSw => (by dsimp only at hSw; go_simp)⟩) (by with_reducible assumption) ?_)
          | (refine wpAnyH_take (i := 5) (v := .bool true) rfl (by kernel_rfl) (by kernel_rfl) (by decide +kernel) (fun _ _ _ h => h) (Or.inl ⟨by rfl, fun W hSw => (by dsimp only at hSw; go_simp)⟩) (by with_reducible assumption) ?_)
          | (refine wpAnyH_take (i := 6) (v := undef) rfl (by kernel_rfl) (by kernel_rfl) (by decide +kernel) (fun _ _ _ h => h) (Or.inr ⟨by rfl, rfl⟩) (by with_reducible assumption) ?_)
          | (refine wpAnyH_take (i := 7) (v := undef) rfl (by kernel_rfl) (by kernel_rfl) (by decide +kernel) (fun _ _ _ h => h) (Or.inr ⟨by rfl, rfl⟩) (by with_reducible assumption) ?_)
          | (refine wpAnyH_take (i := 8) (v := undef) rfl (by kernel_rfl) (by kernel_rfl) (by decide +kernel) (fun _ _ _ h => h) (Or.inr ⟨by rfl, rfl⟩) (by with_reducible assumption) ?_)
          | (refine wpAnyH_take (i := 9) (v := undef) rfl (by kernel_rfl) (by kernel_rfl) (by decide +kernel) (fun _ _ _ h => h) (Or.inr ⟨by rfl, rfl⟩) (by with_reducible assumption) ?_)
          | (refine wpAnyH_take (i := 10) (v := undef) rfl (by kernel_rfl) (by kernel_rfl) (by decide +kernel) (fun _ _ _ h => h) (Or.inr ⟨by rfl, rfl⟩) (by with_reducible assumption) ?_)
          | (refine wpAnyH_take (i := 11) (v := .bool true) rfl (by kernel_rfl) (by kernel_rfl) (by decide +kernel) (fun _ _ _ h => h) (Or.inl ⟨by rfl, fun W hSw => (by dsimp only at hSw; go_simp)⟩) (by with_reducible assumption) ?_)
          | fail);
        try simp only [Act.put, List.setIfInBounds_toArray, List.set_cons_zero, List.set_cons_succ, List.getElem_toArray, List.getElem_cons_zero, List.getElem_cons_succ])
    refine wpAnyH_done (by decide +kernel) ?_ _
    clear x0 x1 x2 x3 f0
    go_wp2
    go_ret
    exact ⟨rfl, hB.trans (hH.2.mono hB.size)⟩

set_option maxRecDepth 100000 in
set_option maxHeartbeats 4000000 in
theorem ron_high (X Y : Nat) (hX : X < Pt.pp) (hY : Y < top) (hlt : ¬ Y < Pt.pp) (w : World) :
    Calls Try.prog 10 #[.agg #[.int .u64 (wd (X) 0), .int .u64 (wd (X) 1), .int .u64 (wd (X) 2), .int .u64 (wd (X) 3), .int .u64 (wd (Y) 0), .int .u64 (wd (Y) 1), .int .u64 (wd (Y) 2), .int .u64 (wd (Y) 3), .bool (false)]] w fun e w' => e = .returned (.bool false) ∧ Below w.heap.size w w' := by
  have hR := pt_new (w := w) (b := w.heap.size) X Y false (t := 26) rfl
  have hB : Below w.heap.size w (w.alloc (.cells #[.int .u64 (wd (X) 0), .int .u64 (wd (X) 1), .int .u64 (wd (X) 2), .int .u64 (wd (X) 3), .int .u64 (wd (Y) 0), .int .u64 (wd (Y) 1), .int .u64 (wd (Y) 2), .int .u64 (wd (Y) 3), .bool (false)] 26)) := (Below.refl _ _).alloc (Nat.le_refl _) _
  obtain ⟨x0, x1, x2, x3⟩ := pt_x hR
  obtain ⟨y0, y1, y2, y3⟩ := pt_y hR
  have f0 := pt_f hR
  have lz := hR.lt
  obtain ⟨M, hM⟩ : ∃ M, M = Pt.pp := ⟨_, rfl⟩
  have HP := veil (show ∀ W, Calls Try.prog 15 #[] W fun e W' => e = .returned (.agg #[.int .u64 (wd (M) 0), .int .u64 (wd (M) 1), .int .u64 (wd (M) 2), .int .u64 (wd (M) 3)]) ∧ Below W.heap.size W W' from fun W => by rw [hM]; exact rp_calls W)
  rw [← hM] at hlt hX
  have hMt : M < top := by rw [hM]; exact pp_top
  clear hM
  have hc : cmpN Y M = 0 ∨ cmpN Y M = 1 := by
    unfold cmpN
    rw [if_neg (by omega)]
    split <;> simp
  have hcx : cmpN X M = -1 := by
    unfold cmpN
    rw [if_pos hX]
  obtain ⟨c, hcc⟩ : ∃ c, c = cmpN Y M := ⟨_, rfl⟩
  rw [← hcc] at hc
  have HC := veil (show ∀ W, Calls Try.prog 29 #[.agg #[.int .u64 (wd (X) 0), .int .u64 (wd (X) 1), .int .u64 (wd (X) 2), .int .u64 (wd (X) 3)], .agg #[.int .u64 (wd (M) 0), .int .u64 (wd (M) 1), .int .u64 (wd (M) 2), .int .u64 (wd (M) 3)]] W fun e W' => e = .returned (.int .i64 (-1)) ∧ Below W.heap.size W W' from fun W => by rw [← hcx]; exact rcmp_calls X M (by omega) hMt W)
  have HD := veil (show ∀ W, Calls Try.prog 29 #[.agg #[.int .u64 (wd (Y) 0), .int .u64 (wd (Y) 1), .int .u64 (wd (Y) 2), .int .u64 (wd (Y) 3)], .agg #[.int .u64 (wd (M) 0), .int .u64 (wd (M) 1), .int .u64 (wd (M) 2), .int .u64 (wd (M) 3)]] W fun e W' => e = .returned (.int .i64 c) ∧ Below W.heap.size W W' from fun W => by rw [hcc]; exact rcmp_calls Y M hY hMt W)
  clear hcc hcx hlt hX hMt hR hY
  rcases hc with rfl | rfl
  all_goals
    go_enter Try.func10, Try.ntmps10
    go_upto_region 3 with (fail)
    generalize w.alloc (.cells #[.int .u64 (wd (X) 0), .int .u64 (wd (X) 1), .int .u64 (wd (X) 2), .int .u64 (wd (X) 3), .int .u64 (wd (Y) 0), .int .u64 (wd (Y) 1), .int .u64 (wd (Y) 2), .int .u64 (wd (Y) 3), .bool (false)] 26) = wz at *
    go_region_held3 (fun w' => (∀ b o, b < wz.heap.size → w'.cell? ⟨b, o, none⟩ = wz.cell? ⟨b, o, none⟩) ∧ Below wz.heap.size wz w')
      (first
        | with_reducible assumption
        | with_reducible exact keep_drew _
        | with_reducible exact keep_old (by assumption) (by assumption)
        | fail)
      (first
        | (go_at_call 15; refine (HP.out _).mono ?_; rintro e w1 ⟨rfl, hb1⟩)
        | (go_at_call 29; first | ((with_reducible refine (HC.out _).mono ?_); rintro e w2 ⟨rfl, hb2⟩) | ((with_reducible refine (HD.out _).mono ?_); rintro e w3 ⟨rfl, hb3⟩)))
    rename (_ ∧ Below wz.heap.size wz _) => hH
    clear x0 x1 x2 x3 y0 y1 y2 y3 f0
    go_wp2
    go_ret
    exact ⟨rfl, hB.trans (hH.2.mono hB.size)⟩
end Go.Proofs.Ytppfcdpokgnpfaa


/-
  clapperref05.On: points whose X and Y are below p; the whole.
-/
namespace Go.Proofs.Ytppfcdpokgnpfaa
open Go.RowKit

set_option maxRecDepth 100000 in
theorem lits3 : wd 3 0 = 3 ∧ wd 3 1 = 0 ∧ wd 3 2 = 0 ∧ wd 3 3 = 0 := by decide
set_option maxRecDepth 100000 in
theorem three_lt : 3 < Pt.pp := by decide +kernel
set_option maxRecDepth 100000 in
theorem bb_lt : Pt.bb < Pt.pp := by decide +kernel
set_option maxRecDepth 100000 in
set_option maxHeartbeats 8000000 in
theorem ron_near (X Y : Nat) (hX : X < Pt.pp) (hY : Y < Pt.pp) (w : World) :
    Calls Try.prog 10 #[.agg #[.int .u64 (wd (X) 0), .int .u64 (wd (X) 1), .int .u64 (wd (X) 2), .int .u64 (wd (X) 3), .int .u64 (wd (Y) 0), .int .u64 (wd (Y) 1), .int .u64 (wd (Y) 2), .int .u64 (wd (Y) 3), .bool (false)]] w fun e w' => e = .returned (.bool (decide (Y * Y % Pt.pp = rightN X))) ∧ Below w.heap.size w w' := by
  have hR := pt_new (w := w) (b := w.heap.size) X Y false (t := 26) rfl
  have hB : Below w.heap.size w (w.alloc (.cells #[.int .u64 (wd (X) 0), .int .u64 (wd (X) 1), .int .u64 (wd (X) 2), .int .u64 (wd (X) 3), .int .u64 (wd (Y) 0), .int .u64 (wd (Y) 1), .int .u64 (wd (Y) 2), .int .u64 (wd (Y) 3), .bool (false)] 26)) := (Below.refl _ _).alloc (Nat.le_refl _) _
  have hmod : ∀ a, a % Pt.pp < Pt.pp := fun a => Nat.mod_lt _ pp_pos
  obtain ⟨A, hA⟩ : ∃ A, A = X * X % Pt.pp := ⟨_, rfl⟩
  obtain ⟨B, hBB⟩ : ∃ B, B = A * X % Pt.pp := ⟨_, rfl⟩
  obtain ⟨C, hC⟩ : ∃ C, C = 3 * X % Pt.pp := ⟨_, rfl⟩
  obtain ⟨D, hD⟩ : ∃ D, D = (B + Pt.pp - C) % Pt.pp := ⟨_, rfl⟩
  obtain ⟨R, hRR⟩ : ∃ R, R = (D + Pt.bb) % Pt.pp := ⟨_, rfl⟩
  obtain ⟨Q, hQ⟩ : ∃ Q, Q = Y * Y % Pt.pp := ⟨_, rfl⟩
  have hfin : rightN X = R := by unfold rightN; rw [← hA, ← hBB, ← hC, ← hD, ← hRR]
  rw [hfin, ← hQ]
  obtain ⟨M, hM⟩ : ∃ M, M = Pt.pp := ⟨_, rfl⟩
  obtain ⟨K, hK⟩ : ∃ K, K = Pt.bb := ⟨_, rfl⟩
  have lX : X < top := Nat.lt_trans hX pp_top
  have lY : Y < top := Nat.lt_trans hY pp_top
  have lA : A < Pt.pp := by rw [hA]; exact hmod _
  have lB : B < Pt.pp := by rw [hBB]; exact hmod _
  have lC : C < Pt.pp := by rw [hC]; exact hmod _
  have lD : D < Pt.pp := by rw [hD]; exact hmod _
  have lR : R < top := by rw [hRR]; exact Nat.lt_trans (hmod _) pp_top
  have lQ : Q < top := by rw [hQ]; exact Nat.lt_trans (hmod _) pp_top
  have hcx : cmpN X Pt.pp = -1 := by unfold cmpN; rw [if_pos hX]
  have hcy : cmpN Y Pt.pp = -1 := by unfold cmpN; rw [if_pos hY]
  obtain ⟨l0, l1, l2, l3⟩ := lits3
  have HP := veil (show ∀ W, Calls Try.prog 15 #[] W fun e W' => e = .returned (.agg #[.int .u64 (wd (M) 0), .int .u64 (wd (M) 1), .int .u64 (wd (M) 2), .int .u64 (wd (M) 3)]) ∧ Below W.heap.size W W' from fun W => by rw [hM]; exact rp_calls W)
  have HCX := veil (show ∀ W, Calls Try.prog 29 #[.agg #[.int .u64 (wd (X) 0), .int .u64 (wd (X) 1), .int .u64 (wd (X) 2), .int .u64 (wd (X) 3)], .agg #[.int .u64 (wd (M) 0), .int .u64 (wd (M) 1), .int .u64 (wd (M) 2), .int .u64 (wd (M) 3)]] W fun e W' => e = .returned (.int .i64 (-1)) ∧ Below W.heap.size W W' from fun W => by rw [hM, ← hcx]; exact rcmp_calls X Pt.pp lX pp_top W)
  have HCY := veil (show ∀ W, Calls Try.prog 29 #[.agg #[.int .u64 (wd (Y) 0), .int .u64 (wd (Y) 1), .int .u64 (wd (Y) 2), .int .u64 (wd (Y) 3)], .agg #[.int .u64 (wd (M) 0), .int .u64 (wd (M) 1), .int .u64 (wd (M) 2), .int .u64 (wd (M) 3)]] W fun e W' => e = .returned (.int .i64 (-1)) ∧ Below W.heap.size W W' from fun W => by rw [hM, ← hcy]; exact rcmp_calls Y Pt.pp lY pp_top W)
  have H1 := veil (show ∀ W, Calls Try.prog 30 #[.agg #[.int .u64 (wd (X) 0), .int .u64 (wd (X) 1), .int .u64 (wd (X) 2), .int .u64 (wd (X) 3)], .agg #[.int .u64 (wd (X) 0), .int .u64 (wd (X) 1), .int .u64 (wd (X) 2), .int .u64 (wd (X) 3)]] W fun e W' => e = .returned (.agg #[.int .u64 (wd (A) 0), .int .u64 (wd (A) 1), .int .u64 (wd (A) 2), .int .u64 (wd (A) 3)]) ∧ Below W.heap.size W W' from fun W => rmul_is X X A hX lX hA W)
  have H2 := veil (show ∀ W, Calls Try.prog 30 #[.agg #[.int .u64 (wd (A) 0), .int .u64 (wd (A) 1), .int .u64 (wd (A) 2), .int .u64 (wd (A) 3)], .agg #[.int .u64 (wd (X) 0), .int .u64 (wd (X) 1), .int .u64 (wd (X) 2), .int .u64 (wd (X) 3)]] W fun e W' => e = .returned (.agg #[.int .u64 (wd (B) 0), .int .u64 (wd (B) 1), .int .u64 (wd (B) 2), .int .u64 (wd (B) 3)]) ∧ Below W.heap.size W W' from fun W => rmul_is A X B lA lX hBB W)
  have H3 := veil (show ∀ W, Calls Try.prog 30 #[.agg #[.int .u64 3, .int .u64 0, .int .u64 0, .int .u64 0], .agg #[.int .u64 (wd (X) 0), .int .u64 (wd (X) 1), .int .u64 (wd (X) 2), .int .u64 (wd (X) 3)]] W fun e W' => e = .returned (.agg #[.int .u64 (wd (C) 0), .int .u64 (wd (C) 1), .int .u64 (wd (C) 2), .int .u64 (wd (C) 3)]) ∧ Below W.heap.size W W' from fun W => by have h := rmul_is 3 X C three_lt lX hC W; rw [l0, l1, l2, l3] at h; exact h)
  have H4 := veil (show ∀ W, Calls Try.prog 30 #[.agg #[.int .u64 (wd (Y) 0), .int .u64 (wd (Y) 1), .int .u64 (wd (Y) 2), .int .u64 (wd (Y) 3)], .agg #[.int .u64 (wd (Y) 0), .int .u64 (wd (Y) 1), .int .u64 (wd (Y) 2), .int .u64 (wd (Y) 3)]] W fun e W' => e = .returned (.agg #[.int .u64 (wd (Q) 0), .int .u64 (wd (Q) 1), .int .u64 (wd (Q) 2), .int .u64 (wd (Q) 3)]) ∧ Below W.heap.size W W' from fun W => rmul_is Y Y Q hY lY hQ W)
  have H5 := veil (show ∀ W, Calls Try.prog 32 #[.agg #[.int .u64 (wd (B) 0), .int .u64 (wd (B) 1), .int .u64 (wd (B) 2), .int .u64 (wd (B) 3)], .agg #[.int .u64 (wd (C) 0), .int .u64 (wd (C) 1), .int .u64 (wd (C) 2), .int .u64 (wd (C) 3)]] W fun e W' => e = .returned (.agg #[.int .u64 (wd (D) 0), .int .u64 (wd (D) 1), .int .u64 (wd (D) 2), .int .u64 (wd (D) 3)]) ∧ Below W.heap.size W W' from fun W => rsub_is B C D lB lC hD W)
  have H6 := veil (show ∀ W, Calls Try.prog 33 #[] W fun e W' => e = .returned (.agg #[.int .u64 (wd (K) 0), .int .u64 (wd (K) 1), .int .u64 (wd (K) 2), .int .u64 (wd (K) 3)]) ∧ Below W.heap.size W W' from fun W => by rw [hK]; exact rb_calls W)
  have H7 := veil (show ∀ W, Calls Try.prog 31 #[.agg #[.int .u64 (wd (D) 0), .int .u64 (wd (D) 1), .int .u64 (wd (D) 2), .int .u64 (wd (D) 3)], .agg #[.int .u64 (wd (K) 0), .int .u64 (wd (K) 1), .int .u64 (wd (K) 2), .int .u64 (wd (K) 3)], .agg #[.int .u64 (wd (M) 0), .int .u64 (wd (M) 1), .int .u64 (wd (M) 2), .int .u64 (wd (M) 3)]] W fun e W' => e = .returned (.agg #[.int .u64 (wd (R) 0), .int .u64 (wd (R) 1), .int .u64 (wd (R) 2), .int .u64 (wd (R) 3)]) ∧ Below W.heap.size W W' from fun W => by rw [hM, hK, hRR]; exact gadd_calls D Pt.bb Pt.pp lD bb_lt pp_top W)
  have kq := fun W => eql_num lQ lR W
  obtain ⟨q, hq⟩ : ∃ q, q = decide (Q = R) := ⟨_, rfl⟩
  rw [← hq] at kq ⊢
  obtain ⟨x0, x1, x2, x3⟩ := pt_x hR
  obtain ⟨y0, y1, y2, y3⟩ := pt_y hR
  have f0 := pt_f hR
  have lz := hR.lt
  have HR := veil hR
  clear hq lQ lR lD lC lB lA lX lY hcx hcy l0 l1 l2 l3 hM hK hfin hRR hD hC hBB hA hQ hX hY hmod hR
  go_enter Try.func10, Try.ntmps10
  go_upto_region 3 with (fail)
  generalize w.alloc (.cells #[.int .u64 (wd (X) 0), .int .u64 (wd (X) 1), .int .u64 (wd (X) 2), .int .u64 (wd (X) 3), .int .u64 (wd (Y) 0), .int .u64 (wd (Y) 1), .int .u64 (wd (Y) 2), .int .u64 (wd (Y) 3), .bool (false)] 26) = wz at *
  go_region_held3 (fun w' => (∀ b o, b < wz.heap.size → w'.cell? ⟨b, o, none⟩ = wz.cell? ⟨b, o, none⟩) ∧ Below wz.heap.size wz w')
    (first
      | (with_reducible assumption)
      | (with_reducible exact keep_drew _)
      | (with_reducible exact keep_old (by assumption) (by assumption))
      | (fail))
    (first
      | (go_at_call 15; refine (HP.out _).mono ?_; rintro e w1 ⟨rfl, hb1⟩)
      | (go_at_call 29; first | ((with_reducible refine (HCX.out _).mono ?_); rintro e w2 ⟨rfl, hb2⟩) | ((with_reducible refine (HCY.out _).mono ?_); rintro e w3 ⟨rfl, hb3⟩)))
  rename (_ ∧ Below wz.heap.size wz _) => hH
  have hH2 := hH.2
  clear hH hb1 hb2 x0 x1 x2 x3 y0 y1 y2 y3 f0
  have hR3 := row_below HR.out hH2 lz
  have hB3 := hB.trans (hH2.mono hB.size)
  clear hH2 hB
  obtain ⟨x0, x1, x2, x3⟩ := pt_x hR3
  have l3 := hR3.lt
  go_upto_region 5 with (fail)
  go_cut [3] from 29 to 36 (fun v3 wx => ∃ g, v3 = .pointer (some ⟨g, 0, none⟩) ∧ w3.heap.size ≤ g ∧ wx.rowIs g 24 4 (fun j => .int .u64 (wd B j)) ∧ Below w3.heap.size w3 wx)
  case first =>
    go_region_held3 (fun w' => (∀ b o, b < w3.heap.size → w'.cell? ⟨b, o, none⟩ = w3.cell? ⟨b, o, none⟩) ∧ Below w3.heap.size w3 w')
      (first
        | (with_reducible assumption)
        | (with_reducible exact keep_drew _)
        | (with_reducible exact keep_fresh _)
        | (with_reducible exact keep_alloc _ (by assumption))
        | ((with_reducible refine keep_swap (by assumption) ?_); first | exact Nat.le_refl _ | exact hbm.size | exact Nat.le_trans hbm.size hbp.size)
        | ((with_reducible refine keep_put4 ?_ (by assumption)); first | exact Nat.le_refl _ | exact hbm.size | exact Nat.le_trans hbm.size hbp.size)
        | (with_reducible exact keep_old (by assumption) (by assumption))
        | (fail))
      (first
        | (go_at_call 30; first | ((with_reducible refine (H1.out _).mono ?_); rintro e wm ⟨rfl, hbm⟩; obtain ⟨hmc, hmf, hml⟩ := below_look hbm) | ((with_reducible refine (H2.out _).mono ?_); rintro e wp ⟨rfl, hbp⟩; obtain ⟨hpc, hpf, hpl⟩ := below_look hbp)))
    all_goals rename (_ ∧ Below w3.heap.size w3 _) => hH
    · go_wp2
      go_meet
      exact ⟨_, rfl, Nat.le_trans hbm.size hbp.size, row_new (n := 4) rfl rfl (arr4 fun j => .int .u64 (wd B j)), hH.2⟩
    · go_wp2
      go_meet
      exact ⟨_, rfl, hbm.size, put4 (row_below (row_new (n := 4) (f := fun _ => .int .u64 0) rfl rfl (arr4 fun _ => .int .u64 0)) hbp (by simp)) (fun j => .int .u64 (wd B j)), hH.2⟩
    · go_wp2
      go_meet
      exact ⟨_, rfl, Nat.le_refl _, put4 (row_below (row_below (row_new (n := 4) (f := fun _ => .int .u64 0) rfl rfl (arr4 fun _ => .int .u64 0)).drew hbm (by simp)) hbp (Nat.lt_of_lt_of_le (by simp) hbm.size)) (fun j => .int .u64 (wd B j)), hH.2⟩
  case rest =>
    obtain ⟨g, rfl, hg, hT5, hB5⟩ := hcut
    clear x0 x1 x2 x3
    have hR5 := row_below hR3 hB5 l3
    have hB6 := hB3.trans (hB5.mono hB3.size)
    clear hR3 hB3 hB5
    obtain ⟨x0, x1, x2, x3⟩ := pt_x hR5
    go_wp2_with fail
    refine (H3.out wc).mono ?_
    rintro e w6 ⟨rfl, hb6⟩
    have hT6 := row_below hT5 hb6 hT5.lt
    have hR6 := row_below hR5 hb6 hR5.lt
    have hB7 := hB6.trans (hb6.mono hB6.size)
    clear x0 x1 x2 x3 hT5 hR5 hB6 hb6
    go_upto_region 7 with (fail)
    have hU7 : (w6.alloc (.cells #[.int .u64 (wd (C) 0), .int .u64 (wd (C) 1), .int .u64 (wd (C) 2), .int .u64 (wd (C) 3)] 24)).rowIs w6.heap.size 24 4 (fun j => .int .u64 (wd C j)) := row_new (n := 4) rfl rfl (arr4 fun j => .int .u64 (wd C j))
    have hT7 := hT6.alloc (.cells #[.int .u64 (wd (C) 0), .int .u64 (wd (C) 1), .int .u64 (wd (C) 2), .int .u64 (wd (C) 3)] 24)
    have hR7 := hR6.alloc (.cells #[.int .u64 (wd (C) 0), .int .u64 (wd (C) 1), .int .u64 (wd (C) 2), .int .u64 (wd (C) 3)] 24)
    have hB8 := hB7.alloc hB7.size (.cells #[.int .u64 (wd (C) 0), .int .u64 (wd (C) 1), .int .u64 (wd (C) 2), .int .u64 (wd (C) 3)] 24)
    generalize w6.alloc (.cells #[.int .u64 (wd (C) 0), .int .u64 (wd (C) 1), .int .u64 (wd (C) 2), .int .u64 (wd (C) 3)] 24) = w7 at *
    generalize w6.heap.size = g4 at *
    clear hT6 hR6 hB7
    obtain ⟨y0, y1, y2, y3⟩ := pt_y hR7
    obtain ⟨t0, t1, t2, t3⟩ := row_c4 hT7
    obtain ⟨u0, u1, u2, u3⟩ := row_c4 hU7
    have m1 := hR7.lt
    have m2 := hT7.lt
    have m3 := hU7.lt
    go_region_held3 (fun w' => (∀ b o, b < w7.heap.size → w'.cell? ⟨b, o, none⟩ = w7.cell? ⟨b, o, none⟩) ∧ Below w7.heap.size w7 w')
      (first
        | (with_reducible assumption)
        | (with_reducible exact keep_drew _)
        | (with_reducible exact keep_old (by assumption) (by assumption))
        | (fail))
      (first
        | (go_at_call 30; (with_reducible refine (H4.out _).mono ?_); rintro e v1 ⟨rfl, hv1⟩)
        | (go_at_call 32; (with_reducible refine (H5.out _).mono ?_); rintro e v2 ⟨rfl, hv2⟩)
        | (go_at_call 33; (with_reducible refine (H6.out _).mono ?_); rintro e v3 ⟨rfl, hv3⟩)
        | (go_at_call 15; (with_reducible refine (HP.out _).mono ?_); rintro e v4 ⟨rfl, hv4⟩)
        | (go_at_call 31; (with_reducible refine (H7.out _).mono ?_); rintro e v5 ⟨rfl, hv5⟩))
    rename (_ ∧ Below w7.heap.size w7 _) => hH
    clear y0 y1 y2 y3 t0 t1 t2 t3 u0 u1 u2 u3
    go_wp2
    go_ret
    exact ⟨rfl, hB8.trans (hH.2.mono hB8.size)⟩

set_option maxRecDepth 100000 in
theorem ron_calls (X Y : Nat) (f : Bool) (hX : X < top) (hY : Y < top) (w : World) :
    Calls Try.prog 10 #[.agg #[.int .u64 (wd (X) 0), .int .u64 (wd (X) 1), .int .u64 (wd (X) 2), .int .u64 (wd (X) 3), .int .u64 (wd (Y) 0), .int .u64 (wd (Y) 1), .int .u64 (wd (Y) 2), .int .u64 (wd (Y) 3), .bool (f)]] w fun e w' => e = .returned (.bool (onB X Y f)) ∧ Below w.heap.size w w' := by
  unfold onB
  cases f with
  | true => exact ron_far X Y hX hY w
  | false =>
    by_cases hx : X < Pt.pp
    · by_cases hy : Y < Pt.pp
      · simp only [Bool.false_eq_true, if_false, hx, hy, decide_true, Bool.true_and]
        exact ron_near X Y hx hy w
      · simp only [Bool.false_eq_true, if_false, hx, hy, decide_true, decide_false, Bool.true_and, Bool.false_and]
        exact ron_high X Y hx hY hy w
    · simp only [Bool.false_eq_true, if_false, hx, decide_false, Bool.false_and]
      exact ron_out X Y hX hx w
end Go.Proofs.Ytppfcdpokgnpfaa


/-
  clapperref05.Neg: the point that takes one away.
-/
namespace Go.Proofs.Ytppfcdpokgnpfaa
open Go.RowKit

set_option maxRecDepth 100000 in
theorem wd_nil (i : Nat) : wd 0 i = 0 := by unfold wd dg; simp
set_option maxRecDepth 100000 in
theorem zero_row {w : World} {b : Nat} {t : Nat} (hb : b = w.heap.size) : (w.alloc (.cells #[.int .u64 0, .int .u64 0, .int .u64 0, .int .u64 0, .int .u64 0, .int .u64 0, .int .u64 0, .int .u64 0, .bool false] t)).rowIs b t 9 (pc 0 0 false) := row_new (n := 9) hb rfl fun i hi => by
  have h := arr9 0 0 false i hi
  simp only [wd_nil] at h
  exact h
set_option maxRecDepth 100000 in
set_option maxHeartbeats 4000000 in
theorem rneg_is (X Y Z : Nat) (f : Bool) (hY : Y < Pt.pp) (hZ : Z = (0 + Pt.pp - Y) % Pt.pp) (w : World) :
    Calls Try.prog 20 #[.agg #[.int .u64 (wd (X) 0), .int .u64 (wd (X) 1), .int .u64 (wd (X) 2), .int .u64 (wd (X) 3), .int .u64 (wd (Y) 0), .int .u64 (wd (Y) 1), .int .u64 (wd (Y) 2), .int .u64 (wd (Y) 3), .bool (f)]] w fun e w' => e = .returned (.agg #[.int .u64 (wd (X) 0), .int .u64 (wd (X) 1), .int .u64 (wd (X) 2), .int .u64 (wd (X) 3), .int .u64 (wd (Z) 0), .int .u64 (wd (Z) 1), .int .u64 (wd (Z) 2), .int .u64 (wd (Z) 3), .bool (f)]) ∧ Below w.heap.size w w' := by
  have hRA : ((w.alloc (.cells #[.int .u64 (wd (X) 0), .int .u64 (wd (X) 1), .int .u64 (wd (X) 2), .int .u64 (wd (X) 3), .int .u64 (wd (Y) 0), .int .u64 (wd (Y) 1), .int .u64 (wd (Y) 2), .int .u64 (wd (Y) 3), .bool (f)] 26)).alloc (.cells #[.int .u64 0, .int .u64 0, .int .u64 0, .int .u64 0, .int .u64 0, .int .u64 0, .int .u64 0, .int .u64 0, .bool false] 26)).rowIs w.heap.size 26 9 (pc X Y f) := (pt_new X Y f rfl).alloc _
  have hRR : ((w.alloc (.cells #[.int .u64 (wd (X) 0), .int .u64 (wd (X) 1), .int .u64 (wd (X) 2), .int .u64 (wd (X) 3), .int .u64 (wd (Y) 0), .int .u64 (wd (Y) 1), .int .u64 (wd (Y) 2), .int .u64 (wd (Y) 3), .bool (f)] 26)).alloc (.cells #[.int .u64 0, .int .u64 0, .int .u64 0, .int .u64 0, .int .u64 0, .int .u64 0, .int .u64 0, .int .u64 0, .bool false] 26)).rowIs (w.heap.size + 1) 26 9 (pc 0 0 false) := zero_row (by simp)
  have hB0 : Below w.heap.size w ((w.alloc (.cells #[.int .u64 (wd (X) 0), .int .u64 (wd (X) 1), .int .u64 (wd (X) 2), .int .u64 (wd (X) 3), .int .u64 (wd (Y) 0), .int .u64 (wd (Y) 1), .int .u64 (wd (Y) 2), .int .u64 (wd (Y) 3), .bool (f)] 26)).alloc (.cells #[.int .u64 0, .int .u64 0, .int .u64 0, .int .u64 0, .int .u64 0, .int .u64 0, .int .u64 0, .int .u64 0, .bool false] 26)) := ((Below.refl _ _).alloc (by simp) _).alloc (by simp) _
  have HS := veil (show ∀ W, Calls Try.prog 32 #[.agg #[.int .u64 0, .int .u64 0, .int .u64 0, .int .u64 0], .agg #[.int .u64 (wd (Y) 0), .int .u64 (wd (Y) 1), .int .u64 (wd (Y) 2), .int .u64 (wd (Y) 3)]] W fun e W' => e = .returned (.agg #[.int .u64 (wd (Z) 0), .int .u64 (wd (Z) 1), .int .u64 (wd (Z) 2), .int .u64 (wd (Z) 3)]) ∧ Below W.heap.size W W' from fun W => by
    have h := rsub_is 0 Y Z pp_pos hY hZ W
    simp only [wd_nil] at h
    exact h)
  clear hY hZ
  go_enter Try.func20, Try.ntmps20
  go_upto_region 1 with (fail)
  generalize ((w.alloc (.cells #[.int .u64 (wd (X) 0), .int .u64 (wd (X) 1), .int .u64 (wd (X) 2), .int .u64 (wd (X) 3), .int .u64 (wd (Y) 0), .int .u64 (wd (Y) 1), .int .u64 (wd (Y) 2), .int .u64 (wd (Y) 3), .bool (f)] 26)).alloc (.cells #[.int .u64 0, .int .u64 0, .int .u64 0, .int .u64 0, .int .u64 0, .int .u64 0, .int .u64 0, .int .u64 0, .bool false] 26)) = wz at *
  obtain ⟨x0, x1, x2, x3⟩ := pt_x hRA
  obtain ⟨y0, y1, y2, y3⟩ := pt_y hRA
  have f0 := pt_f hRA
  have lz := hRA.lt
  have sB : ∀ W, Bt (w.heap.size + 1) 26 9 wz W → (Bt (w.heap.size + 1) 26 9 wz W ∧ W.cell? ⟨w.heap.size, 0, none⟩ = some (.int .u64 (wd X 0)) ∧ W.cell? ⟨w.heap.size, 1, none⟩ = some (.int .u64 (wd X 1)) ∧ W.cell? ⟨w.heap.size, 2, none⟩ = some (.int .u64 (wd X 2)) ∧ W.cell? ⟨w.heap.size, 3, none⟩ = some (.int .u64 (wd X 3)) ∧ W.cell? ⟨w.heap.size, 4, none⟩ = some (.int .u64 (wd Y 0)) ∧ W.cell? ⟨w.heap.size, 5, none⟩ = some (.int .u64 (wd Y 1)) ∧ W.cell? ⟨w.heap.size, 6, none⟩ = some (.int .u64 (wd Y 2)) ∧ W.cell? ⟨w.heap.size, 7, none⟩ = some (.int .u64 (wd Y 3)) ∧ W.cell? ⟨w.heap.size, 8, none⟩ = some (.bool f)) := fun W hB => ⟨hB, (hB.cell lz (by omega)).trans x0, (hB.cell lz (by omega)).trans x1, (hB.cell lz (by omega)).trans x2, (hB.cell lz (by omega)).trans x3, (hB.cell lz (by omega)).trans y0, (hB.cell lz (by omega)).trans y1, (hB.cell lz (by omega)).trans y2, (hB.cell lz (by omega)).trans y3, (hB.cell lz (by omega)).trans f0⟩
  have hS0 := sB wz (.of hRR (But.refl _ _))
  have SB := veil sB
  have HB0 := veil hB0
  clear sB hB0 hRA hRR
  refine wp_region_held_drew (S := fun W => Bt (w.heap.size + 1) 26 9 wz W ∧ W.cell? ⟨w.heap.size, 0, none⟩ = some (.int .u64 (wd X 0)) ∧ W.cell? ⟨w.heap.size, 1, none⟩ = some (.int .u64 (wd X 1)) ∧ W.cell? ⟨w.heap.size, 2, none⟩ = some (.int .u64 (wd X 2)) ∧ W.cell? ⟨w.heap.size, 3, none⟩ = some (.int .u64 (wd X 3)) ∧ W.cell? ⟨w.heap.size, 4, none⟩ = some (.int .u64 (wd Y 0)) ∧ W.cell? ⟨w.heap.size, 5, none⟩ = some (.int .u64 (wd Y 1)) ∧ W.cell? ⟨w.heap.size, 6, none⟩ = some (.int .u64 (wd Y 2)) ∧ W.cell? ⟨w.heap.size, 7, none⟩ = some (.int .u64 (wd Y 3)) ∧ W.cell? ⟨w.heap.size, 8, none⟩ = some (.bool f)) (by kernel_rfl) (SB.out _ hS0.1.drew) (fun hH => ?_)
  repeat
    ((first
        | (refine wpAnyH_take (i := 0) (v := .pointer (some ⟨w.heap.size, 0, none⟩)) rfl (by kernel_rfl) (by kernel_rfl) (by decide +kernel) (fun _ _ _ h => h) (Or.inl ⟨by rfl, fun W hSw => (by dsimp only at hSw; go_simp)⟩) (by with_reducible assumption) ?_)
        | (refine wpAnyH_take (i := 1) (v := .agg #[.int .u64 (wd (X) 0), .int .u64 (wd (X) 1), .int .u64 (wd (X) 2), .int .u64 (wd (X) 3)]) rfl (by kernel_rfl) (by kernel_rfl) (by decide +kernel) (fun _ _ _ h => h) (Or.inl ⟨by rfl, fun W hSw => (by dsimp only at hSw; go_simp)⟩) (by with_reducible assumption) ?_)
        | (refine wpAnyH_take (i := 2) (v := .agg #[.int .u64 0, .int .u64 0, .int .u64 0, .int .u64 0]) rfl (by kernel_rfl) (by kernel_rfl) (by decide +kernel) (fun _ _ _ h => h) (Or.inl ⟨by rfl, fun W hSw => (by dsimp only at hSw; go_simp)⟩) (by with_reducible assumption) ?_)
        | (refine wpAnyH_take (i := 3) (v := .pointer (some ⟨w.heap.size, 4, none⟩)) rfl (by kernel_rfl) (by kernel_rfl) (by decide +kernel) (fun _ _ _ h => h) (Or.inl ⟨by rfl, fun W hSw => (by dsimp only at hSw; go_simp)⟩) (by with_reducible assumption) ?_)
        | (refine wpAnyH_take (i := 4) (v := .agg #[.int .u64 (wd (Y) 0), .int .u64 (wd (Y) 1), .int .u64 (wd (Y) 2), .int .u64 (wd (Y) 3)]) rfl (by kernel_rfl) (by kernel_rfl) (by decide +kernel) (fun _ _ _ h => h) (Or.inl ⟨by rfl, fun W hSw => (by dsimp only at hSw; go_simp)⟩) (by with_reducible assumption) ?_)
        | (refine wpAnyH_ready (rs := [5]) (by decide +kernel) (by simp) ?_; refine AllReadyH.cons rfl (fun K hK => ?_) AllReadyH.nil; go_simp; (with_reducible refine (HS.out _).mono ?_); rintro e w1 ⟨rfl, hb⟩; have hb1 := hS0.1.drew.call hb; clear hb; obtain ⟨fz, hz⟩ := hb1.2; have HZ := veil (blkOf hz); clear hz; refine hK.out _ _ (SB.out _ hb1) (fun hH => ?_); clear hK K)
        | (refine wpAnyH_take (i := 6) (v := .pointer (some ⟨w.heap.size, 8, none⟩)) rfl (by kernel_rfl) (by kernel_rfl) (by decide +kernel) (fun _ _ _ h => h) (Or.inl ⟨by rfl, fun W hSw => (by dsimp only at hSw; go_simp)⟩) (by with_reducible assumption) ?_)
        | (refine wpAnyH_take (i := 7) (v := .bool f) rfl (by kernel_rfl) (by kernel_rfl) (by decide +kernel) (fun _ _ _ h => h) (Or.inl ⟨by rfl, fun W hSw => (by dsimp only at hSw; go_simp)⟩) (by with_reducible assumption) ?_)
        | (refine wpAnyH_take (i := 8) (v := .agg #[.int .u64 (wd (X) 0), .int .u64 (wd (X) 1), .int .u64 (wd (X) 2), .int .u64 (wd (X) 3), .int .u64 (wd (Z) 0), .int .u64 (wd (Z) 1), .int .u64 (wd (Z) 2), .int .u64 (wd (Z) 3), .bool (f)]) rfl (by kernel_rfl) (by kernel_rfl) (by decide +kernel) (fun _ _ _ h => h) (Or.inl ⟨by rfl, fun W hSw => (by dsimp only at hSw; go_simp)⟩) (by with_reducible assumption) ?_)
        | (refine wpAnyH_ready (rs := [9]) (by decide +kernel) (by simp) ?_; refine AllReadyH.cons rfl (fun K hK => ?_) AllReadyH.nil; refine step_store_row rfl 26 _ _ rfl (w.heap.size + 1) #[.int .u64 (wd (X) 0), .int .u64 (wd (X) 1), .int .u64 (wd (X) 2), .int .u64 (wd (X) 3), .int .u64 (wd (Z) 0), .int .u64 (wd (Z) 1), .int .u64 (wd (Z) 2), .int .u64 (wd (Z) 3), .bool (f)] rfl rfl 26 _ HZ.out info_pt (by rw [arrOf_size]; rfl) (one9 X Z f) ?_; refine hK.out _ _ (SB.out _ (hb1.setRow rfl)) (fun hH => ?_); clear hK K)
        | fail);
      try simp only [Act.put, List.setIfInBounds_toArray, List.set_cons_zero, List.set_cons_succ, List.getElem_toArray, List.getElem_cons_zero, List.getElem_cons_succ])
  refine wpAnyH_done (by decide +kernel) ?_ _
  clear x0 x1 x2 x3 y0 y1 y2 y3 f0
  have HFIN := veil (setRow_heap _ (w.heap.size + 1) _ #[.int .u64 (wd (X) 0), .int .u64 (wd (X) 1), .int .u64 (wd (X) 2), .int .u64 (wd (X) 3), .int .u64 (wd (Z) 0), .int .u64 (wd (Z) 1), .int .u64 (wd (Z) 2), .int .u64 (wd (Z) 3), .bool (f)] 26 (0, 0) HZ.out)
  clear hH
  go_wp2
  exact bodyPost_ret (results_cell_row rfl _ _ (w.heap.size + 1) 26 #[.int .u64 (wd (X) 0), .int .u64 (wd (X) 1), .int .u64 (wd (X) 2), .int .u64 (wd (X) 3), .int .u64 (wd (Z) 0), .int .u64 (wd (Z) 1), .int .u64 (wd (Z) 2), .int .u64 (wd (Z) 3), .bool (f)] (0, 0) _ rfl HFIN.out Try.underlying26 rfl info_pt) rfl ⟨rfl, HB0.out.trans ((hb1.setRow (cs := #[.int .u64 (wd (X) 0), .int .u64 (wd (X) 1), .int .u64 (wd (X) 2), .int .u64 (wd (X) 3), .int .u64 (wd (Z) 0), .int .u64 (wd (Z) 1), .int .u64 (wd (Z) 2), .int .u64 (wd (Z) 3), .bool (f)]) rfl).below (by omega) HB0.out.size)⟩
end Go.Proofs.Ytppfcdpokgnpfaa


/-
  clapperref05.Add: Far and another point; a point and its negative.
-/
namespace Go.Proofs.Ytppfcdpokgnpfaa
open Go.RowKit

set_option maxRecDepth 100000 in
set_option maxHeartbeats 4000000 in
theorem radd_far1 (X1 Y1 X2 Y2 : Nat) (f2 : Bool) (w : World) :
    Calls Try.prog 21 #[.agg #[.int .u64 (wd (X1) 0), .int .u64 (wd (X1) 1), .int .u64 (wd (X1) 2), .int .u64 (wd (X1) 3), .int .u64 (wd (Y1) 0), .int .u64 (wd (Y1) 1), .int .u64 (wd (Y1) 2), .int .u64 (wd (Y1) 3), .bool (true)], .agg #[.int .u64 (wd (X2) 0), .int .u64 (wd (X2) 1), .int .u64 (wd (X2) 2), .int .u64 (wd (X2) 3), .int .u64 (wd (Y2) 0), .int .u64 (wd (Y2) 1), .int .u64 (wd (Y2) 2), .int .u64 (wd (Y2) 3), .bool (f2)]] w fun e w' => e = .returned (.agg #[.int .u64 (wd (X2) 0), .int .u64 (wd (X2) 1), .int .u64 (wd (X2) 2), .int .u64 (wd (X2) 3), .int .u64 (wd (Y2) 0), .int .u64 (wd (Y2) 1), .int .u64 (wd (Y2) 2), .int .u64 (wd (Y2) 3), .bool (f2)]) ∧ Below w.heap.size w w' := by
  have hA : (((w.alloc (.cells #[.int .u64 (wd (X1) 0), .int .u64 (wd (X1) 1), .int .u64 (wd (X1) 2), .int .u64 (wd (X1) 3), .int .u64 (wd (Y1) 0), .int .u64 (wd (Y1) 1), .int .u64 (wd (Y1) 2), .int .u64 (wd (Y1) 3), .bool (true)] 26)).alloc (.cells #[.int .u64 (wd (X2) 0), .int .u64 (wd (X2) 1), .int .u64 (wd (X2) 2), .int .u64 (wd (X2) 3), .int .u64 (wd (Y2) 0), .int .u64 (wd (Y2) 1), .int .u64 (wd (Y2) 2), .int .u64 (wd (Y2) 3), .bool (f2)] 26)).alloc (.cells #[.int .u64 0, .int .u64 0, .int .u64 0, .int .u64 0, .int .u64 0, .int .u64 0, .int .u64 0, .int .u64 0, .bool false] 26)).rowIs w.heap.size 26 9 (pc X1 Y1 true) := ((pt_new X1 Y1 true rfl).alloc _).alloc _
  have hC : (((w.alloc (.cells #[.int .u64 (wd (X1) 0), .int .u64 (wd (X1) 1), .int .u64 (wd (X1) 2), .int .u64 (wd (X1) 3), .int .u64 (wd (Y1) 0), .int .u64 (wd (Y1) 1), .int .u64 (wd (Y1) 2), .int .u64 (wd (Y1) 3), .bool (true)] 26)).alloc (.cells #[.int .u64 (wd (X2) 0), .int .u64 (wd (X2) 1), .int .u64 (wd (X2) 2), .int .u64 (wd (X2) 3), .int .u64 (wd (Y2) 0), .int .u64 (wd (Y2) 1), .int .u64 (wd (Y2) 2), .int .u64 (wd (Y2) 3), .bool (f2)] 26)).alloc (.cells #[.int .u64 0, .int .u64 0, .int .u64 0, .int .u64 0, .int .u64 0, .int .u64 0, .int .u64 0, .int .u64 0, .bool false] 26)).rowIs (w.heap.size + 1) 26 9 (pc X2 Y2 f2) := (pt_new X2 Y2 f2 (by simp)).alloc _
  have hR : (((w.alloc (.cells #[.int .u64 (wd (X1) 0), .int .u64 (wd (X1) 1), .int .u64 (wd (X1) 2), .int .u64 (wd (X1) 3), .int .u64 (wd (Y1) 0), .int .u64 (wd (Y1) 1), .int .u64 (wd (Y1) 2), .int .u64 (wd (Y1) 3), .bool (true)] 26)).alloc (.cells #[.int .u64 (wd (X2) 0), .int .u64 (wd (X2) 1), .int .u64 (wd (X2) 2), .int .u64 (wd (X2) 3), .int .u64 (wd (Y2) 0), .int .u64 (wd (Y2) 1), .int .u64 (wd (Y2) 2), .int .u64 (wd (Y2) 3), .bool (f2)] 26)).alloc (.cells #[.int .u64 0, .int .u64 0, .int .u64 0, .int .u64 0, .int .u64 0, .int .u64 0, .int .u64 0, .int .u64 0, .bool false] 26)).rowIs (w.heap.size + 1 + 1) 26 9 (pc 0 0 false) := zero_row (by simp)
  have hB : Below w.heap.size w (((w.alloc (.cells #[.int .u64 (wd (X1) 0), .int .u64 (wd (X1) 1), .int .u64 (wd (X1) 2), .int .u64 (wd (X1) 3), .int .u64 (wd (Y1) 0), .int .u64 (wd (Y1) 1), .int .u64 (wd (Y1) 2), .int .u64 (wd (Y1) 3), .bool (true)] 26)).alloc (.cells #[.int .u64 (wd (X2) 0), .int .u64 (wd (X2) 1), .int .u64 (wd (X2) 2), .int .u64 (wd (X2) 3), .int .u64 (wd (Y2) 0), .int .u64 (wd (Y2) 1), .int .u64 (wd (Y2) 2), .int .u64 (wd (Y2) 3), .bool (f2)] 26)).alloc (.cells #[.int .u64 0, .int .u64 0, .int .u64 0, .int .u64 0, .int .u64 0, .int .u64 0, .int .u64 0, .int .u64 0, .bool false] 26)) := (((Below.refl _ _).alloc (by simp) _).alloc (by simp) _).alloc (by simp; omega) _
  go_enter Try.func21, Try.ntmps21
  go_upto_region 1 with (fail)
  generalize (((w.alloc (.cells #[.int .u64 (wd (X1) 0), .int .u64 (wd (X1) 1), .int .u64 (wd (X1) 2), .int .u64 (wd (X1) 3), .int .u64 (wd (Y1) 0), .int .u64 (wd (Y1) 1), .int .u64 (wd (Y1) 2), .int .u64 (wd (Y1) 3), .bool (true)] 26)).alloc (.cells #[.int .u64 (wd (X2) 0), .int .u64 (wd (X2) 1), .int .u64 (wd (X2) 2), .int .u64 (wd (X2) 3), .int .u64 (wd (Y2) 0), .int .u64 (wd (Y2) 1), .int .u64 (wd (Y2) 2), .int .u64 (wd (Y2) 3), .bool (f2)] 26)).alloc (.cells #[.int .u64 0, .int .u64 0, .int .u64 0, .int .u64 0, .int .u64 0, .int .u64 0, .int .u64 0, .int .u64 0, .bool false] 26)) = wz at *
  have fA := pt_f hA
  have fC := pt_f hC
  have HV := veil (blk9 hC)
  have HR := veil (blkOf hR)
  clear hA hC hR
  go_wp2_with (first
    | ((with_reducible refine at_slot 13 ?_); refine wpList_load_row rfl 26 _ rfl (w.heap.size + 1) rfl 26 #[.int .u64 (wd (X2) 0), .int .u64 (wd (X2) 1), .int .u64 (wd (X2) 2), .int .u64 (wd (X2) 3), .int .u64 (wd (Y2) 0), .int .u64 (wd (Y2) 1), .int .u64 (wd (Y2) 2), .int .u64 (wd (Y2) 3), .bool (f2)] (0, 0) _ HV.out Try.underlying26 rfl info_pt ?_)
    | ((with_reducible refine at_none ?_); refine wpList_store_row rfl 26 _ _ rfl (w.heap.size + 1 + 1) #[.int .u64 (wd (X2) 0), .int .u64 (wd (X2) 1), .int .u64 (wd (X2) 2), .int .u64 (wd (X2) 3), .int .u64 (wd (Y2) 0), .int .u64 (wd (Y2) 1), .int .u64 (wd (Y2) 2), .int .u64 (wd (Y2) 3), .bool (f2)] rfl rfl 26 _ HR.out info_pt (by rw [arrOf_size]; rfl) (one9 _ _ _) ?_))
  exact bodyPost_ret (results_cell_row rfl _ _ (w.heap.size + 1 + 1) 26 #[.int .u64 (wd (X2) 0), .int .u64 (wd (X2) 1), .int .u64 (wd (X2) 2), .int .u64 (wd (X2) 3), .int .u64 (wd (Y2) 0), .int .u64 (wd (Y2) 1), .int .u64 (wd (Y2) 2), .int .u64 (wd (Y2) 3), .bool (f2)] (0, 0) _ rfl (setRow_heap wz (w.heap.size + 1 + 1) _ #[.int .u64 (wd (X2) 0), .int .u64 (wd (X2) 1), .int .u64 (wd (X2) 2), .int .u64 (wd (X2) 3), .int .u64 (wd (Y2) 0), .int .u64 (wd (Y2) 1), .int .u64 (wd (Y2) 2), .int .u64 (wd (Y2) 3), .bool (f2)] 26 (0, 0) HR.out) Try.underlying26 rfl info_pt) rfl ⟨rfl, below_setRow hB (by omega) _⟩

set_option maxRecDepth 100000 in
set_option maxHeartbeats 4000000 in
theorem radd_far2 (X1 Y1 X2 Y2 : Nat) (w : World) :
    Calls Try.prog 21 #[.agg #[.int .u64 (wd (X1) 0), .int .u64 (wd (X1) 1), .int .u64 (wd (X1) 2), .int .u64 (wd (X1) 3), .int .u64 (wd (Y1) 0), .int .u64 (wd (Y1) 1), .int .u64 (wd (Y1) 2), .int .u64 (wd (Y1) 3), .bool (false)], .agg #[.int .u64 (wd (X2) 0), .int .u64 (wd (X2) 1), .int .u64 (wd (X2) 2), .int .u64 (wd (X2) 3), .int .u64 (wd (Y2) 0), .int .u64 (wd (Y2) 1), .int .u64 (wd (Y2) 2), .int .u64 (wd (Y2) 3), .bool (true)]] w fun e w' => e = .returned (.agg #[.int .u64 (wd (X1) 0), .int .u64 (wd (X1) 1), .int .u64 (wd (X1) 2), .int .u64 (wd (X1) 3), .int .u64 (wd (Y1) 0), .int .u64 (wd (Y1) 1), .int .u64 (wd (Y1) 2), .int .u64 (wd (Y1) 3), .bool (false)]) ∧ Below w.heap.size w w' := by
  have hA : (((w.alloc (.cells #[.int .u64 (wd (X1) 0), .int .u64 (wd (X1) 1), .int .u64 (wd (X1) 2), .int .u64 (wd (X1) 3), .int .u64 (wd (Y1) 0), .int .u64 (wd (Y1) 1), .int .u64 (wd (Y1) 2), .int .u64 (wd (Y1) 3), .bool (false)] 26)).alloc (.cells #[.int .u64 (wd (X2) 0), .int .u64 (wd (X2) 1), .int .u64 (wd (X2) 2), .int .u64 (wd (X2) 3), .int .u64 (wd (Y2) 0), .int .u64 (wd (Y2) 1), .int .u64 (wd (Y2) 2), .int .u64 (wd (Y2) 3), .bool (true)] 26)).alloc (.cells #[.int .u64 0, .int .u64 0, .int .u64 0, .int .u64 0, .int .u64 0, .int .u64 0, .int .u64 0, .int .u64 0, .bool false] 26)).rowIs w.heap.size 26 9 (pc X1 Y1 false) := ((pt_new X1 Y1 false rfl).alloc _).alloc _
  have hC : (((w.alloc (.cells #[.int .u64 (wd (X1) 0), .int .u64 (wd (X1) 1), .int .u64 (wd (X1) 2), .int .u64 (wd (X1) 3), .int .u64 (wd (Y1) 0), .int .u64 (wd (Y1) 1), .int .u64 (wd (Y1) 2), .int .u64 (wd (Y1) 3), .bool (false)] 26)).alloc (.cells #[.int .u64 (wd (X2) 0), .int .u64 (wd (X2) 1), .int .u64 (wd (X2) 2), .int .u64 (wd (X2) 3), .int .u64 (wd (Y2) 0), .int .u64 (wd (Y2) 1), .int .u64 (wd (Y2) 2), .int .u64 (wd (Y2) 3), .bool (true)] 26)).alloc (.cells #[.int .u64 0, .int .u64 0, .int .u64 0, .int .u64 0, .int .u64 0, .int .u64 0, .int .u64 0, .int .u64 0, .bool false] 26)).rowIs (w.heap.size + 1) 26 9 (pc X2 Y2 true) := (pt_new X2 Y2 true (by simp)).alloc _
  have hR : (((w.alloc (.cells #[.int .u64 (wd (X1) 0), .int .u64 (wd (X1) 1), .int .u64 (wd (X1) 2), .int .u64 (wd (X1) 3), .int .u64 (wd (Y1) 0), .int .u64 (wd (Y1) 1), .int .u64 (wd (Y1) 2), .int .u64 (wd (Y1) 3), .bool (false)] 26)).alloc (.cells #[.int .u64 (wd (X2) 0), .int .u64 (wd (X2) 1), .int .u64 (wd (X2) 2), .int .u64 (wd (X2) 3), .int .u64 (wd (Y2) 0), .int .u64 (wd (Y2) 1), .int .u64 (wd (Y2) 2), .int .u64 (wd (Y2) 3), .bool (true)] 26)).alloc (.cells #[.int .u64 0, .int .u64 0, .int .u64 0, .int .u64 0, .int .u64 0, .int .u64 0, .int .u64 0, .int .u64 0, .bool false] 26)).rowIs (w.heap.size + 1 + 1) 26 9 (pc 0 0 false) := zero_row (by simp)
  have hB : Below w.heap.size w (((w.alloc (.cells #[.int .u64 (wd (X1) 0), .int .u64 (wd (X1) 1), .int .u64 (wd (X1) 2), .int .u64 (wd (X1) 3), .int .u64 (wd (Y1) 0), .int .u64 (wd (Y1) 1), .int .u64 (wd (Y1) 2), .int .u64 (wd (Y1) 3), .bool (false)] 26)).alloc (.cells #[.int .u64 (wd (X2) 0), .int .u64 (wd (X2) 1), .int .u64 (wd (X2) 2), .int .u64 (wd (X2) 3), .int .u64 (wd (Y2) 0), .int .u64 (wd (Y2) 1), .int .u64 (wd (Y2) 2), .int .u64 (wd (Y2) 3), .bool (true)] 26)).alloc (.cells #[.int .u64 0, .int .u64 0, .int .u64 0, .int .u64 0, .int .u64 0, .int .u64 0, .int .u64 0, .int .u64 0, .bool false] 26)) := (((Below.refl _ _).alloc (by simp) _).alloc (by simp) _).alloc (by simp; omega) _
  go_enter Try.func21, Try.ntmps21
  go_upto_region 1 with (fail)
  generalize (((w.alloc (.cells #[.int .u64 (wd (X1) 0), .int .u64 (wd (X1) 1), .int .u64 (wd (X1) 2), .int .u64 (wd (X1) 3), .int .u64 (wd (Y1) 0), .int .u64 (wd (Y1) 1), .int .u64 (wd (Y1) 2), .int .u64 (wd (Y1) 3), .bool (false)] 26)).alloc (.cells #[.int .u64 (wd (X2) 0), .int .u64 (wd (X2) 1), .int .u64 (wd (X2) 2), .int .u64 (wd (X2) 3), .int .u64 (wd (Y2) 0), .int .u64 (wd (Y2) 1), .int .u64 (wd (Y2) 2), .int .u64 (wd (Y2) 3), .bool (true)] 26)).alloc (.cells #[.int .u64 0, .int .u64 0, .int .u64 0, .int .u64 0, .int .u64 0, .int .u64 0, .int .u64 0, .int .u64 0, .bool false] 26)) = wz at *
  have fA := pt_f hA
  have fC := pt_f hC
  have HV := veil (blk9 hA)
  have HR := veil (blkOf hR)
  clear hA hC hR
  go_wp2_with (first
    | ((with_reducible refine at_slot 16 ?_); refine wpList_load_row rfl 26 _ rfl w.heap.size rfl 26 #[.int .u64 (wd (X1) 0), .int .u64 (wd (X1) 1), .int .u64 (wd (X1) 2), .int .u64 (wd (X1) 3), .int .u64 (wd (Y1) 0), .int .u64 (wd (Y1) 1), .int .u64 (wd (Y1) 2), .int .u64 (wd (Y1) 3), .bool (false)] (0, 0) _ HV.out Try.underlying26 rfl info_pt ?_)
    | ((with_reducible refine at_none ?_); refine wpList_store_row rfl 26 _ _ rfl (w.heap.size + 1 + 1) #[.int .u64 (wd (X1) 0), .int .u64 (wd (X1) 1), .int .u64 (wd (X1) 2), .int .u64 (wd (X1) 3), .int .u64 (wd (Y1) 0), .int .u64 (wd (Y1) 1), .int .u64 (wd (Y1) 2), .int .u64 (wd (Y1) 3), .bool (false)] rfl rfl 26 _ HR.out info_pt (by rw [arrOf_size]; rfl) (one9 _ _ _) ?_))
  exact bodyPost_ret (results_cell_row rfl _ _ (w.heap.size + 1 + 1) 26 #[.int .u64 (wd (X1) 0), .int .u64 (wd (X1) 1), .int .u64 (wd (X1) 2), .int .u64 (wd (X1) 3), .int .u64 (wd (Y1) 0), .int .u64 (wd (Y1) 1), .int .u64 (wd (Y1) 2), .int .u64 (wd (Y1) 3), .bool (false)] (0, 0) _ rfl (setRow_heap wz (w.heap.size + 1 + 1) _ #[.int .u64 (wd (X1) 0), .int .u64 (wd (X1) 1), .int .u64 (wd (X1) 2), .int .u64 (wd (X1) 3), .int .u64 (wd (Y1) 0), .int .u64 (wd (Y1) 1), .int .u64 (wd (Y1) 2), .int .u64 (wd (Y1) 3), .bool (false)] 26 (0, 0) HR.out) Try.underlying26 rfl info_pt) rfl ⟨rfl, below_setRow hB (by omega) _⟩

set_option maxRecDepth 100000 in
theorem range_pt {w : World} {b t X Y : Nat} {f : Bool} (h : w.rowIs b t 9 (pc X Y f)) : w.rangeAt b 0 [.int .u64 (wd X 0), .int .u64 (wd X 1), .int .u64 (wd X 2), .int .u64 (wd X 3), .int .u64 (wd Y 0), .int .u64 (wd Y 1), .int .u64 (wd Y 2), .int .u64 (wd Y 3), .bool f] := fun j v hv => by
  rw [Nat.zero_add, cell_of_row w b j _ t (0, 0) (blk9 h)]
  simpa using hv
set_option maxRecDepth 100000 in
set_option maxHeartbeats 4000000 in
theorem radd_opp (X1 Y1 X2 Y2 : Nat) (hX1 : X1 < top) (hY1 : Y1 < top) (hX2 : X2 < top) (hY2 : Y2 < Pt.pp) (h : X1 = X2 ∧ Y1 = (0 + Pt.pp - Y2) % Pt.pp) (w : World) :
    Calls Try.prog 21 #[.agg #[.int .u64 (wd (X1) 0), .int .u64 (wd (X1) 1), .int .u64 (wd (X1) 2), .int .u64 (wd (X1) 3), .int .u64 (wd (Y1) 0), .int .u64 (wd (Y1) 1), .int .u64 (wd (Y1) 2), .int .u64 (wd (Y1) 3), .bool (false)], .agg #[.int .u64 (wd (X2) 0), .int .u64 (wd (X2) 1), .int .u64 (wd (X2) 2), .int .u64 (wd (X2) 3), .int .u64 (wd (Y2) 0), .int .u64 (wd (Y2) 1), .int .u64 (wd (Y2) 2), .int .u64 (wd (Y2) 3), .bool (false)]] w fun e w' => e = .returned (.agg #[.int .u64 0, .int .u64 0, .int .u64 0, .int .u64 0, .int .u64 0, .int .u64 0, .int .u64 0, .int .u64 0, .bool true]) ∧ Below w.heap.size w w' := by
  have hA : (((w.alloc (.cells #[.int .u64 (wd (X1) 0), .int .u64 (wd (X1) 1), .int .u64 (wd (X1) 2), .int .u64 (wd (X1) 3), .int .u64 (wd (Y1) 0), .int .u64 (wd (Y1) 1), .int .u64 (wd (Y1) 2), .int .u64 (wd (Y1) 3), .bool (false)] 26)).alloc (.cells #[.int .u64 (wd (X2) 0), .int .u64 (wd (X2) 1), .int .u64 (wd (X2) 2), .int .u64 (wd (X2) 3), .int .u64 (wd (Y2) 0), .int .u64 (wd (Y2) 1), .int .u64 (wd (Y2) 2), .int .u64 (wd (Y2) 3), .bool (false)] 26)).alloc (.cells #[.int .u64 0, .int .u64 0, .int .u64 0, .int .u64 0, .int .u64 0, .int .u64 0, .int .u64 0, .int .u64 0, .bool false] 26)).rowIs w.heap.size 26 9 (pc X1 Y1 false) := ((pt_new X1 Y1 false rfl).alloc _).alloc _
  have hC : (((w.alloc (.cells #[.int .u64 (wd (X1) 0), .int .u64 (wd (X1) 1), .int .u64 (wd (X1) 2), .int .u64 (wd (X1) 3), .int .u64 (wd (Y1) 0), .int .u64 (wd (Y1) 1), .int .u64 (wd (Y1) 2), .int .u64 (wd (Y1) 3), .bool (false)] 26)).alloc (.cells #[.int .u64 (wd (X2) 0), .int .u64 (wd (X2) 1), .int .u64 (wd (X2) 2), .int .u64 (wd (X2) 3), .int .u64 (wd (Y2) 0), .int .u64 (wd (Y2) 1), .int .u64 (wd (Y2) 2), .int .u64 (wd (Y2) 3), .bool (false)] 26)).alloc (.cells #[.int .u64 0, .int .u64 0, .int .u64 0, .int .u64 0, .int .u64 0, .int .u64 0, .int .u64 0, .int .u64 0, .bool false] 26)).rowIs (w.heap.size + 1) 26 9 (pc X2 Y2 false) := (pt_new X2 Y2 false (by simp)).alloc _
  have hR : (((w.alloc (.cells #[.int .u64 (wd (X1) 0), .int .u64 (wd (X1) 1), .int .u64 (wd (X1) 2), .int .u64 (wd (X1) 3), .int .u64 (wd (Y1) 0), .int .u64 (wd (Y1) 1), .int .u64 (wd (Y1) 2), .int .u64 (wd (Y1) 3), .bool (false)] 26)).alloc (.cells #[.int .u64 (wd (X2) 0), .int .u64 (wd (X2) 1), .int .u64 (wd (X2) 2), .int .u64 (wd (X2) 3), .int .u64 (wd (Y2) 0), .int .u64 (wd (Y2) 1), .int .u64 (wd (Y2) 2), .int .u64 (wd (Y2) 3), .bool (false)] 26)).alloc (.cells #[.int .u64 0, .int .u64 0, .int .u64 0, .int .u64 0, .int .u64 0, .int .u64 0, .int .u64 0, .int .u64 0, .bool false] 26)).rowIs (w.heap.size + 1 + 1) 26 9 (pc 0 0 false) := zero_row (by simp)
  have hB : Below w.heap.size w (((w.alloc (.cells #[.int .u64 (wd (X1) 0), .int .u64 (wd (X1) 1), .int .u64 (wd (X1) 2), .int .u64 (wd (X1) 3), .int .u64 (wd (Y1) 0), .int .u64 (wd (Y1) 1), .int .u64 (wd (Y1) 2), .int .u64 (wd (Y1) 3), .bool (false)] 26)).alloc (.cells #[.int .u64 (wd (X2) 0), .int .u64 (wd (X2) 1), .int .u64 (wd (X2) 2), .int .u64 (wd (X2) 3), .int .u64 (wd (Y2) 0), .int .u64 (wd (Y2) 1), .int .u64 (wd (Y2) 2), .int .u64 (wd (Y2) 3), .bool (false)] 26)).alloc (.cells #[.int .u64 0, .int .u64 0, .int .u64 0, .int .u64 0, .int .u64 0, .int .u64 0, .int .u64 0, .int .u64 0, .bool false] 26)) := (((Below.refl _ _).alloc (by simp) _).alloc (by simp) _).alloc (by simp; omega) _
  obtain ⟨Z, hZ⟩ : ∃ Z, Z = (0 + Pt.pp - Y2) % Pt.pp := ⟨_, rfl⟩
  have HN := veil (show ∀ W, Calls Try.prog 20 #[.agg #[.int .u64 (wd (X2) 0), .int .u64 (wd (X2) 1), .int .u64 (wd (X2) 2), .int .u64 (wd (X2) 3), .int .u64 (wd (Y2) 0), .int .u64 (wd (Y2) 1), .int .u64 (wd (Y2) 2), .int .u64 (wd (Y2) 3), .bool (false)]] W fun e W' => e = .returned (.agg #[.int .u64 (wd (X2) 0), .int .u64 (wd (X2) 1), .int .u64 (wd (X2) 2), .int .u64 (wd (X2) 3), .int .u64 (wd (Z) 0), .int .u64 (wd (Z) 1), .int .u64 (wd (Z) 2), .int .u64 (wd (Z) 3), .bool (false)]) ∧ Below W.heap.size W W' from fun W => rneg_is X2 Y2 Z false hY2 hZ W)
  have lZ : Z < top := by rw [hZ]; exact Nat.lt_trans (Nat.mod_lt _ pp_pos) pp_top
  have kq : ∀ W, (binOp .eql 26 (.agg #[.int .u64 (wd (X1) 0), .int .u64 (wd (X1) 1), .int .u64 (wd (X1) 2), .int .u64 (wd (X1) 3), .int .u64 (wd (Y1) 0), .int .u64 (wd (Y1) 1), .int .u64 (wd (Y1) 2), .int .u64 (wd (Y1) 3), .bool (false)]) (.agg #[.int .u64 (wd (X2) 0), .int .u64 (wd (X2) 1), .int .u64 (wd (X2) 2), .int .u64 (wd (X2) 3), .int .u64 (wd (Z) 0), .int .u64 (wd (Z) 1), .int .u64 (wd (Z) 2), .int .u64 (wd (Z) 3), .bool (false)])).run Try.prog W = .ok (.bool true) W := fun W => by
    rw [eql_pt hX1 hY1 hX2 lZ false false W, decide_eq_true ⟨h.1, by rw [hZ]; exact h.2, rfl⟩]
  clear hZ h hX1 hY1 hX2 hY2 lZ
  go_enter Try.func21, Try.ntmps21
  go_upto_region 1 with (fail)
  generalize (((w.alloc (.cells #[.int .u64 (wd (X1) 0), .int .u64 (wd (X1) 1), .int .u64 (wd (X1) 2), .int .u64 (wd (X1) 3), .int .u64 (wd (Y1) 0), .int .u64 (wd (Y1) 1), .int .u64 (wd (Y1) 2), .int .u64 (wd (Y1) 3), .bool (false)] 26)).alloc (.cells #[.int .u64 (wd (X2) 0), .int .u64 (wd (X2) 1), .int .u64 (wd (X2) 2), .int .u64 (wd (X2) 3), .int .u64 (wd (Y2) 0), .int .u64 (wd (Y2) 1), .int .u64 (wd (Y2) 2), .int .u64 (wd (Y2) 3), .bool (false)] 26)).alloc (.cells #[.int .u64 0, .int .u64 0, .int .u64 0, .int .u64 0, .int .u64 0, .int .u64 0, .int .u64 0, .int .u64 0, .bool false] 26)) = wz at *
  have fA := pt_f hA
  have fC := pt_f hC
  go_upto_region 5 with (fail)
  have lA := hA.lt
  have lC := hC.lt
  have sB : ∀ W, Below wz.heap.size wz W → (Below wz.heap.size wz W ∧ W.rangeAt w.heap.size 0 [.int .u64 (wd X1 0), .int .u64 (wd X1 1), .int .u64 (wd X1 2), .int .u64 (wd X1 3), .int .u64 (wd Y1 0), .int .u64 (wd Y1 1), .int .u64 (wd Y1 2), .int .u64 (wd Y1 3), .bool false] ∧ W.rangeAt (w.heap.size + 1) 0 [.int .u64 (wd X2 0), .int .u64 (wd X2 1), .int .u64 (wd X2 2), .int .u64 (wd X2 3), .int .u64 (wd Y2 0), .int .u64 (wd Y2 1), .int .u64 (wd Y2 2), .int .u64 (wd Y2 3), .bool false]) := fun W hb => ⟨hb, range_block (range_pt hA) (hb.block _ lA), range_block (range_pt hC) (hb.block _ lC)⟩
  have SB := veil sB
  clear sB
  refine wp_region_held_drew (S := fun W => (Below wz.heap.size wz W ∧ W.rangeAt w.heap.size 0 [.int .u64 (wd X1 0), .int .u64 (wd X1 1), .int .u64 (wd X1 2), .int .u64 (wd X1 3), .int .u64 (wd Y1 0), .int .u64 (wd Y1 1), .int .u64 (wd Y1 2), .int .u64 (wd Y1 3), .bool false] ∧ W.rangeAt (w.heap.size + 1) 0 [.int .u64 (wd X2 0), .int .u64 (wd X2 1), .int .u64 (wd X2 2), .int .u64 (wd X2 3), .int .u64 (wd Y2 0), .int .u64 (wd Y2 1), .int .u64 (wd Y2 2), .int .u64 (wd Y2 3), .bool false])) (by kernel_rfl) (SB.out _ (Below.refl _ wz).drew) (fun hH => ?_)
  repeat
    ((first
        | (refine wpAnyH_take (i := 0) (v := .agg #[.int .u64 (wd X1 0), .int .u64 (wd X1 1), .int .u64 (wd X1 2), .int .u64 (wd X1 3), .int .u64 (wd Y1 0), .int .u64 (wd Y1 1), .int .u64 (wd Y1 2), .int .u64 (wd Y1 3), .bool false]) rfl (by kernel_rfl) (by kernel_rfl) (by decide +kernel) (fun _ _ _ h => h) (yieldsIf_load_mid (by rfl) _ _ rfl _ _ rfl _ _ (fun W hSw => hSw.2.1) Try.underlying26 rfl info_pt) (by with_reducible assumption) ?_)
        | (refine wpAnyH_take (i := 1) (v := .agg #[.int .u64 (wd X2 0), .int .u64 (wd X2 1), .int .u64 (wd X2 2), .int .u64 (wd X2 3), .int .u64 (wd Y2 0), .int .u64 (wd Y2 1), .int .u64 (wd Y2 2), .int .u64 (wd Y2 3), .bool false]) rfl (by kernel_rfl) (by kernel_rfl) (by decide +kernel) (fun _ _ _ h => h) (yieldsIf_load_mid (by rfl) _ _ rfl _ _ rfl _ _ (fun W hSw => hSw.2.2) Try.underlying26 rfl info_pt) (by with_reducible assumption) ?_)
        | (refine wpAnyH_ready (rs := [2]) (by decide +kernel) (by simp) ?_; refine AllReadyH.cons rfl (fun K hK => ?_) AllReadyH.nil; go_simp; (with_reducible refine (HN.out _).mono ?_); rintro e w1 ⟨rfl, hb⟩; have hb1 := hH.1.trans (hb.mono hH.1.size); clear hb; refine hK.out _ _ (SB.out _ hb1) (fun hH => ?_); clear hK K)
        | (refine wpAnyH_take (i := 3) (v := .bool true) rfl (by kernel_rfl) (by kernel_rfl) (by decide +kernel) (fun _ _ _ h => h) (Or.inl ⟨by rfl, fun W hSw => (by dsimp only at hSw; go_simp)⟩) (by with_reducible assumption) ?_)
        | fail);
      try simp only [Act.put, List.setIfInBounds_toArray, List.set_cons_zero, List.set_cons_succ, List.getElem_toArray, List.getElem_cons_zero, List.getElem_cons_succ])
  refine wpAnyH_done (by decide +kernel) ?_ _
  have HR := veil (blkOf (row_below hR hb1 hR.lt))
  have hB1 := hB.trans (hb1.mono hB.size)
  clear hA hC hR hB kq fA fC hH
  go_wp2_with ((with_reducible refine at_none ?_); refine wpList_store_row rfl 26 _ _ rfl (w.heap.size + 1 + 1) #[.int .u64 0, .int .u64 0, .int .u64 0, .int .u64 0, .int .u64 0, .int .u64 0, .int .u64 0, .int .u64 0, .bool true] rfl rfl 26 _ HR.out info_pt (by rw [arrOf_size]; rfl) (by simp [Value.oneCell']) ?_)
  exact bodyPost_ret (results_cell_row rfl _ _ (w.heap.size + 1 + 1) 26 #[.int .u64 0, .int .u64 0, .int .u64 0, .int .u64 0, .int .u64 0, .int .u64 0, .int .u64 0, .int .u64 0, .bool true] (0, 0) _ rfl (setRow_heap w1 (w.heap.size + 1 + 1) _ #[.int .u64 0, .int .u64 0, .int .u64 0, .int .u64 0, .int .u64 0, .int .u64 0, .int .u64 0, .int .u64 0, .bool true] 26 (0, 0) HR.out) Try.underlying26 rfl info_pt) rfl ⟨rfl, below_setRow hB1 (by omega) _⟩
set_option maxRecDepth 100000 in
theorem far_pt : (.agg #[.int .u64 (wd (0) 0), .int .u64 (wd (0) 1), .int .u64 (wd (0) 2), .int .u64 (wd (0) 3), .int .u64 (wd (0) 0), .int .u64 (wd (0) 1), .int .u64 (wd (0) 2), .int .u64 (wd (0) 3), .bool (true)] : Value) = .agg #[.int .u64 0, .int .u64 0, .int .u64 0, .int .u64 0, .int .u64 0, .int .u64 0, .int .u64 0, .int .u64 0, .bool true] := by simp only [wd_nil]
end Go.Proofs.Ytppfcdpokgnpfaa


/-
  clapperref05.Add: two points that are near, and not each other's negative.
-/
namespace Go.Proofs.Ytppfcdpokgnpfaa
open Go.RowKit

/-- The sum's X, and Y, by what is up, and the inverse of what is down. -/
def x3 (U T X1 X2 : Nat) : Nat := ((U * T % Pt.pp * (U * T % Pt.pp) % Pt.pp + Pt.pp - X1) % Pt.pp + Pt.pp - X2) % Pt.pp
def y3 (U T X1 Y1 X2 : Nat) : Nat := (U * T % Pt.pp * ((X1 + Pt.pp - x3 U T X1 X2) % Pt.pp) % Pt.pp + Pt.pp - Y1) % Pt.pp
set_option maxRecDepth 100000 in
theorem pp_one : 1 < Pt.pp := by decide +kernel
set_option maxRecDepth 100000 in
theorem pp_odd : Pt.pp % 2 = 1 := by decide +kernel
set_option maxRecDepth 100000 in
set_option maxHeartbeats 8000000 in
theorem radd_else (X1 Y1 X2 Y2 U Dn : Nat) (hX1 : X1 < Pt.pp) (hY1 : Y1 < Pt.pp) (hX2 : X2 < Pt.pp) (hY2 : Y2 < Pt.pp) (hn : ¬ (X1 = X2 ∧ Y1 = (0 + Pt.pp - Y2) % Pt.pp)) (hs : ¬ (X1 = X2 ∧ Y1 = Y2)) (hU : U = (Y2 + Pt.pp - Y1) % Pt.pp) (hD : Dn = (X2 + Pt.pp - X1) % Pt.pp) (w : World) :
    Calls Try.prog 21 #[.agg #[.int .u64 (wd (X1) 0), .int .u64 (wd (X1) 1), .int .u64 (wd (X1) 2), .int .u64 (wd (X1) 3), .int .u64 (wd (Y1) 0), .int .u64 (wd (Y1) 1), .int .u64 (wd (Y1) 2), .int .u64 (wd (Y1) 3), .bool (false)], .agg #[.int .u64 (wd (X2) 0), .int .u64 (wd (X2) 1), .int .u64 (wd (X2) 2), .int .u64 (wd (X2) 3), .int .u64 (wd (Y2) 0), .int .u64 (wd (Y2) 1), .int .u64 (wd (Y2) 2), .int .u64 (wd (Y2) 3), .bool (false)]] w fun e w' => ∃ T, T < Pt.pp ∧ (Nat.gcd Dn Pt.pp = 1 → Dn * T % Pt.pp = 1) ∧ e = .returned (.agg #[.int .u64 (wd (x3 U T X1 X2) 0), .int .u64 (wd (x3 U T X1 X2) 1), .int .u64 (wd (x3 U T X1 X2) 2), .int .u64 (wd (x3 U T X1 X2) 3), .int .u64 (wd (y3 U T X1 Y1 X2) 0), .int .u64 (wd (y3 U T X1 Y1 X2) 1), .int .u64 (wd (y3 U T X1 Y1 X2) 2), .int .u64 (wd (y3 U T X1 Y1 X2) 3), .bool (false)]) ∧ Below w.heap.size w w' := by
  have hA : (((w.alloc (.cells #[.int .u64 (wd (X1) 0), .int .u64 (wd (X1) 1), .int .u64 (wd (X1) 2), .int .u64 (wd (X1) 3), .int .u64 (wd (Y1) 0), .int .u64 (wd (Y1) 1), .int .u64 (wd (Y1) 2), .int .u64 (wd (Y1) 3), .bool (false)] 26)).alloc (.cells #[.int .u64 (wd (X2) 0), .int .u64 (wd (X2) 1), .int .u64 (wd (X2) 2), .int .u64 (wd (X2) 3), .int .u64 (wd (Y2) 0), .int .u64 (wd (Y2) 1), .int .u64 (wd (Y2) 2), .int .u64 (wd (Y2) 3), .bool (false)] 26)).alloc (.cells #[.int .u64 0, .int .u64 0, .int .u64 0, .int .u64 0, .int .u64 0, .int .u64 0, .int .u64 0, .int .u64 0, .bool false] 26)).rowIs w.heap.size 26 9 (pc X1 Y1 false) := ((pt_new X1 Y1 false rfl).alloc _).alloc _
  have hC : (((w.alloc (.cells #[.int .u64 (wd (X1) 0), .int .u64 (wd (X1) 1), .int .u64 (wd (X1) 2), .int .u64 (wd (X1) 3), .int .u64 (wd (Y1) 0), .int .u64 (wd (Y1) 1), .int .u64 (wd (Y1) 2), .int .u64 (wd (Y1) 3), .bool (false)] 26)).alloc (.cells #[.int .u64 (wd (X2) 0), .int .u64 (wd (X2) 1), .int .u64 (wd (X2) 2), .int .u64 (wd (X2) 3), .int .u64 (wd (Y2) 0), .int .u64 (wd (Y2) 1), .int .u64 (wd (Y2) 2), .int .u64 (wd (Y2) 3), .bool (false)] 26)).alloc (.cells #[.int .u64 0, .int .u64 0, .int .u64 0, .int .u64 0, .int .u64 0, .int .u64 0, .int .u64 0, .int .u64 0, .bool false] 26)).rowIs (w.heap.size + 1) 26 9 (pc X2 Y2 false) := (pt_new X2 Y2 false (by simp)).alloc _
  have hR : (((w.alloc (.cells #[.int .u64 (wd (X1) 0), .int .u64 (wd (X1) 1), .int .u64 (wd (X1) 2), .int .u64 (wd (X1) 3), .int .u64 (wd (Y1) 0), .int .u64 (wd (Y1) 1), .int .u64 (wd (Y1) 2), .int .u64 (wd (Y1) 3), .bool (false)] 26)).alloc (.cells #[.int .u64 (wd (X2) 0), .int .u64 (wd (X2) 1), .int .u64 (wd (X2) 2), .int .u64 (wd (X2) 3), .int .u64 (wd (Y2) 0), .int .u64 (wd (Y2) 1), .int .u64 (wd (Y2) 2), .int .u64 (wd (Y2) 3), .bool (false)] 26)).alloc (.cells #[.int .u64 0, .int .u64 0, .int .u64 0, .int .u64 0, .int .u64 0, .int .u64 0, .int .u64 0, .int .u64 0, .bool false] 26)).rowIs (w.heap.size + 1 + 1) 26 9 (pc 0 0 false) := zero_row (by simp)
  have hB : Below w.heap.size w (((w.alloc (.cells #[.int .u64 (wd (X1) 0), .int .u64 (wd (X1) 1), .int .u64 (wd (X1) 2), .int .u64 (wd (X1) 3), .int .u64 (wd (Y1) 0), .int .u64 (wd (Y1) 1), .int .u64 (wd (Y1) 2), .int .u64 (wd (Y1) 3), .bool (false)] 26)).alloc (.cells #[.int .u64 (wd (X2) 0), .int .u64 (wd (X2) 1), .int .u64 (wd (X2) 2), .int .u64 (wd (X2) 3), .int .u64 (wd (Y2) 0), .int .u64 (wd (Y2) 1), .int .u64 (wd (Y2) 2), .int .u64 (wd (Y2) 3), .bool (false)] 26)).alloc (.cells #[.int .u64 0, .int .u64 0, .int .u64 0, .int .u64 0, .int .u64 0, .int .u64 0, .int .u64 0, .int .u64 0, .bool false] 26)) := (((Below.refl _ _).alloc (by simp) _).alloc (by simp) _).alloc (by simp; omega) _
  obtain ⟨Z, hZ⟩ : ∃ Z, Z = (0 + Pt.pp - Y2) % Pt.pp := ⟨_, rfl⟩
  have HN := veil (show ∀ W, Calls Try.prog 20 #[.agg #[.int .u64 (wd (X2) 0), .int .u64 (wd (X2) 1), .int .u64 (wd (X2) 2), .int .u64 (wd (X2) 3), .int .u64 (wd (Y2) 0), .int .u64 (wd (Y2) 1), .int .u64 (wd (Y2) 2), .int .u64 (wd (Y2) 3), .bool (false)]] W fun e W' => e = .returned (.agg #[.int .u64 (wd (X2) 0), .int .u64 (wd (X2) 1), .int .u64 (wd (X2) 2), .int .u64 (wd (X2) 3), .int .u64 (wd (Z) 0), .int .u64 (wd (Z) 1), .int .u64 (wd (Z) 2), .int .u64 (wd (Z) 3), .bool (false)]) ∧ Below W.heap.size W W' from fun W => rneg_is X2 Y2 Z false hY2 hZ W)
  have lZ : Z < top := by rw [hZ]; exact Nat.lt_trans (Nat.mod_lt _ pp_pos) pp_top
  have kq : ∀ W, (binOp .eql 26 (.agg #[.int .u64 (wd (X1) 0), .int .u64 (wd (X1) 1), .int .u64 (wd (X1) 2), .int .u64 (wd (X1) 3), .int .u64 (wd (Y1) 0), .int .u64 (wd (Y1) 1), .int .u64 (wd (Y1) 2), .int .u64 (wd (Y1) 3), .bool (false)]) (.agg #[.int .u64 (wd (X2) 0), .int .u64 (wd (X2) 1), .int .u64 (wd (X2) 2), .int .u64 (wd (X2) 3), .int .u64 (wd (Z) 0), .int .u64 (wd (Z) 1), .int .u64 (wd (Z) 2), .int .u64 (wd (Z) 3), .bool (false)])).run Try.prog W = .ok (.bool false) W := fun W => by
    rw [eql_pt (Nat.lt_trans hX1 pp_top) (Nat.lt_trans hY1 pp_top) (Nat.lt_trans hX2 pp_top) lZ false false W, decide_eq_false fun h => hn ⟨h.1, by rw [← hZ]; exact h.2.1⟩]
  have ks : ∀ W, (binOp .eql 26 (.agg #[.int .u64 (wd (X1) 0), .int .u64 (wd (X1) 1), .int .u64 (wd (X1) 2), .int .u64 (wd (X1) 3), .int .u64 (wd (Y1) 0), .int .u64 (wd (Y1) 1), .int .u64 (wd (Y1) 2), .int .u64 (wd (Y1) 3), .bool (false)]) (.agg #[.int .u64 (wd (X2) 0), .int .u64 (wd (X2) 1), .int .u64 (wd (X2) 2), .int .u64 (wd (X2) 3), .int .u64 (wd (Y2) 0), .int .u64 (wd (Y2) 1), .int .u64 (wd (Y2) 2), .int .u64 (wd (Y2) 3), .bool (false)])).run Try.prog W = .ok (.bool false) W := fun W => by
    rw [eql_pt (Nat.lt_trans hX1 pp_top) (Nat.lt_trans hY1 pp_top) (Nat.lt_trans hX2 pp_top) (Nat.lt_trans hY2 pp_top) false false W, decide_eq_false fun h => hs ⟨h.1, h.2.1⟩]
  obtain ⟨M, hM⟩ : ∃ M, M = Pt.pp := ⟨_, rfl⟩
  have lU : U < Pt.pp := by rw [hU]; exact Nat.mod_lt _ pp_pos
  have lD : Dn < Pt.pp := by rw [hD]; exact Nat.mod_lt _ pp_pos
  have HP := veil (show ∀ W, Calls Try.prog 15 #[] W fun e W' => e = .returned (.agg #[.int .u64 (wd (M) 0), .int .u64 (wd (M) 1), .int .u64 (wd (M) 2), .int .u64 (wd (M) 3)]) ∧ Below W.heap.size W W' from fun W => by rw [hM]; exact rp_calls W)
  have HI := veil (show ∀ W, Calls Try.prog 39 #[.agg #[.int .u64 (wd (Dn) 0), .int .u64 (wd (Dn) 1), .int .u64 (wd (Dn) 2), .int .u64 (wd (Dn) 3)], .agg #[.int .u64 (wd (M) 0), .int .u64 (wd (M) 1), .int .u64 (wd (M) 2), .int .u64 (wd (M) 3)]] W fun e W' => ∃ T, T < Pt.pp ∧ (Nat.gcd Dn Pt.pp = 1 → Dn * T % Pt.pp = 1) ∧ e = .returned (.tuple #[.agg #[.int .u64 (wd (T) 0), .int .u64 (wd (T) 1), .int .u64 (wd (T) 2), .int .u64 (wd (T) 3)], .bool (Nat.gcd Dn Pt.pp == 1)]) ∧ Below W.heap.size W W' from fun W => by rw [hM]; exact ginv_calls Dn Pt.pp lD pp_one pp_odd pp_top W)
  have HS1 := veil (show ∀ W, Calls Try.prog 32 #[.agg #[.int .u64 (wd (Y2) 0), .int .u64 (wd (Y2) 1), .int .u64 (wd (Y2) 2), .int .u64 (wd (Y2) 3)], .agg #[.int .u64 (wd (Y1) 0), .int .u64 (wd (Y1) 1), .int .u64 (wd (Y1) 2), .int .u64 (wd (Y1) 3)]] W fun e W' => e = .returned (.agg #[.int .u64 (wd (U) 0), .int .u64 (wd (U) 1), .int .u64 (wd (U) 2), .int .u64 (wd (U) 3)]) ∧ Below W.heap.size W W' from fun W => rsub_is Y2 Y1 U hY2 hY1 hU W)
  have HS2 := veil (show ∀ W, Calls Try.prog 32 #[.agg #[.int .u64 (wd (X2) 0), .int .u64 (wd (X2) 1), .int .u64 (wd (X2) 2), .int .u64 (wd (X2) 3)], .agg #[.int .u64 (wd (X1) 0), .int .u64 (wd (X1) 1), .int .u64 (wd (X1) 2), .int .u64 (wd (X1) 3)]] W fun e W' => e = .returned (.agg #[.int .u64 (wd (Dn) 0), .int .u64 (wd (Dn) 1), .int .u64 (wd (Dn) 2), .int .u64 (wd (Dn) 3)]) ∧ Below W.heap.size W W' from fun W => rsub_is X2 X1 Dn hX2 hX1 hD W)
  have HLT := veil (And.intro hX1 (And.intro hY1 (And.intro hX2 (And.intro hY2 lU))))
  clear hZ hn hs hX1 hY1 hX2 hY2 lZ hM hU hD lU lD
  go_enter Try.func21, Try.ntmps21
  go_upto_region 1 with (fail)
  generalize (((w.alloc (.cells #[.int .u64 (wd (X1) 0), .int .u64 (wd (X1) 1), .int .u64 (wd (X1) 2), .int .u64 (wd (X1) 3), .int .u64 (wd (Y1) 0), .int .u64 (wd (Y1) 1), .int .u64 (wd (Y1) 2), .int .u64 (wd (Y1) 3), .bool (false)] 26)).alloc (.cells #[.int .u64 (wd (X2) 0), .int .u64 (wd (X2) 1), .int .u64 (wd (X2) 2), .int .u64 (wd (X2) 3), .int .u64 (wd (Y2) 0), .int .u64 (wd (Y2) 1), .int .u64 (wd (Y2) 2), .int .u64 (wd (Y2) 3), .bool (false)] 26)).alloc (.cells #[.int .u64 0, .int .u64 0, .int .u64 0, .int .u64 0, .int .u64 0, .int .u64 0, .int .u64 0, .int .u64 0, .bool false] 26)) = wz at *
  have fA := pt_f hA
  have fC := pt_f hC
  go_upto_region 5 with (fail)
  have lA := hA.lt
  have lC := hC.lt
  have sB : ∀ W, Below wz.heap.size wz W → (Below wz.heap.size wz W ∧ W.rangeAt w.heap.size 0 [.int .u64 (wd X1 0), .int .u64 (wd X1 1), .int .u64 (wd X1 2), .int .u64 (wd X1 3), .int .u64 (wd Y1 0), .int .u64 (wd Y1 1), .int .u64 (wd Y1 2), .int .u64 (wd Y1 3), .bool false] ∧ W.rangeAt (w.heap.size + 1) 0 [.int .u64 (wd X2 0), .int .u64 (wd X2 1), .int .u64 (wd X2 2), .int .u64 (wd X2 3), .int .u64 (wd Y2 0), .int .u64 (wd Y2 1), .int .u64 (wd Y2 2), .int .u64 (wd Y2 3), .bool false]) := fun W hb => ⟨hb, range_block (range_pt hA) (hb.block _ lA), range_block (range_pt hC) (hb.block _ lC)⟩
  have SB := veil sB
  clear sB
  refine wp_region_held_drew (S := fun W => (Below wz.heap.size wz W ∧ W.rangeAt w.heap.size 0 [.int .u64 (wd X1 0), .int .u64 (wd X1 1), .int .u64 (wd X1 2), .int .u64 (wd X1 3), .int .u64 (wd Y1 0), .int .u64 (wd Y1 1), .int .u64 (wd Y1 2), .int .u64 (wd Y1 3), .bool false] ∧ W.rangeAt (w.heap.size + 1) 0 [.int .u64 (wd X2 0), .int .u64 (wd X2 1), .int .u64 (wd X2 2), .int .u64 (wd X2 3), .int .u64 (wd Y2 0), .int .u64 (wd Y2 1), .int .u64 (wd Y2 2), .int .u64 (wd Y2 3), .bool false])) (by kernel_rfl) (SB.out _ (Below.refl _ wz).drew) (fun hH => ?_)
  repeat
    ((first
        | (refine wpAnyH_take (i := 0) (v := .agg #[.int .u64 (wd X1 0), .int .u64 (wd X1 1), .int .u64 (wd X1 2), .int .u64 (wd X1 3), .int .u64 (wd Y1 0), .int .u64 (wd Y1 1), .int .u64 (wd Y1 2), .int .u64 (wd Y1 3), .bool false]) rfl (by kernel_rfl) (by kernel_rfl) (by decide +kernel) (fun _ _ _ h => h) (yieldsIf_load_mid (by rfl) _ _ rfl _ _ rfl _ _ (fun W hSw => hSw.2.1) Try.underlying26 rfl info_pt) (by with_reducible assumption) ?_)
        | (refine wpAnyH_take (i := 1) (v := .agg #[.int .u64 (wd X2 0), .int .u64 (wd X2 1), .int .u64 (wd X2 2), .int .u64 (wd X2 3), .int .u64 (wd Y2 0), .int .u64 (wd Y2 1), .int .u64 (wd Y2 2), .int .u64 (wd Y2 3), .bool false]) rfl (by kernel_rfl) (by kernel_rfl) (by decide +kernel) (fun _ _ _ h => h) (yieldsIf_load_mid (by rfl) _ _ rfl _ _ rfl _ _ (fun W hSw => hSw.2.2) Try.underlying26 rfl info_pt) (by with_reducible assumption) ?_)
        | (refine wpAnyH_ready (rs := [2]) (by decide +kernel) (by simp) ?_; refine AllReadyH.cons rfl (fun K hK => ?_) AllReadyH.nil; go_simp; (with_reducible refine (HN.out _).mono ?_); rintro e w1 ⟨rfl, hb⟩; have hb1 := hH.1.trans (hb.mono hH.1.size); clear hb; refine hK.out _ _ (SB.out _ hb1) (fun hH => ?_); clear hK K)
        | (refine wpAnyH_take (i := 3) (v := .bool false) rfl (by kernel_rfl) (by kernel_rfl) (by decide +kernel) (fun _ _ _ h => h) (Or.inl ⟨by rfl, fun W hSw => (by dsimp only at hSw; go_simp)⟩) (by with_reducible assumption) ?_)
        | fail);
      try simp only [Act.put, List.setIfInBounds_toArray, List.set_cons_zero, List.set_cons_succ, List.getElem_toArray, List.getElem_cons_zero, List.getElem_cons_succ])
  refine wpAnyH_done (by decide +kernel) ?_ _
  clear hH fA fC kq HN SB lA lC
  have hb := hb1
  clear hb1
  replace hA := row_below hA hb hA.lt
  replace hC := row_below hC hb hC.lt
  replace hR := row_below hR hb hR.lt
  replace hB := hB.trans (hb.mono hB.size)
  clear hb
  obtain ⟨y0, y1, y2, y3'⟩ := pt_y hA
  obtain ⟨z0, z1, z2, z3⟩ := pt_y hC
  go_wp2_with fail
  refine (HS1.out _).mono ?_
  rintro e w7 ⟨rfl, hb⟩
  clear y0 y1 y2 y3' z0 z1 z2 z3
  replace hA := row_below hA hb hA.lt
  replace hC := row_below hC hb hC.lt
  replace hR := row_below hR hb hR.lt
  replace hB := hB.trans (hb.mono hB.size)
  clear hb
  go_upto_region 8 with (fail)
  replace hA := hA.alloc (.cells #[.int .u64 (wd (U) 0), .int .u64 (wd (U) 1), .int .u64 (wd (U) 2), .int .u64 (wd (U) 3)] 24)
  replace hC := hC.alloc (.cells #[.int .u64 (wd (U) 0), .int .u64 (wd (U) 1), .int .u64 (wd (U) 2), .int .u64 (wd (U) 3)] 24)
  replace hR := hR.alloc (.cells #[.int .u64 (wd (U) 0), .int .u64 (wd (U) 1), .int .u64 (wd (U) 2), .int .u64 (wd (U) 3)] 24)
  have hU : (w7.alloc (.cells #[.int .u64 (wd (U) 0), .int .u64 (wd (U) 1), .int .u64 (wd (U) 2), .int .u64 (wd (U) 3)] 24)).rowIs w7.heap.size 24 4 (fun j => .int .u64 (wd U j)) := row_new (n := 4) rfl rfl (arr4 fun j => .int .u64 (wd U j))
  replace hB := hB.alloc hB.size (.cells #[.int .u64 (wd (U) 0), .int .u64 (wd (U) 1), .int .u64 (wd (U) 2), .int .u64 (wd (U) 3)] 24)
  generalize w7.alloc (.cells #[.int .u64 (wd (U) 0), .int .u64 (wd (U) 1), .int .u64 (wd (U) 2), .int .u64 (wd (U) 3)] 24) = w8 at *
  generalize w7.heap.size = g5 at *
  obtain ⟨y0, y1, y2, y3'⟩ := pt_x hA
  obtain ⟨z0, z1, z2, z3⟩ := pt_x hC
  go_wp2_with fail
  refine (HS2.out _).mono ?_
  rintro e w9 ⟨rfl, hb⟩
  clear y0 y1 y2 y3' z0 z1 z2 z3
  replace hA := row_below hA hb hA.lt
  replace hC := row_below hC hb hC.lt
  replace hR := row_below hR hb hR.lt
  replace hU := row_below hU hb hU.lt
  replace hB := hB.trans (hb.mono hB.size)
  clear hb
  go_upto_region 9 with (fail)
  replace hA := hA.alloc (.cells #[.int .u64 (wd (Dn) 0), .int .u64 (wd (Dn) 1), .int .u64 (wd (Dn) 2), .int .u64 (wd (Dn) 3)] 24)
  replace hC := hC.alloc (.cells #[.int .u64 (wd (Dn) 0), .int .u64 (wd (Dn) 1), .int .u64 (wd (Dn) 2), .int .u64 (wd (Dn) 3)] 24)
  replace hR := hR.alloc (.cells #[.int .u64 (wd (Dn) 0), .int .u64 (wd (Dn) 1), .int .u64 (wd (Dn) 2), .int .u64 (wd (Dn) 3)] 24)
  replace hU := hU.alloc (.cells #[.int .u64 (wd (Dn) 0), .int .u64 (wd (Dn) 1), .int .u64 (wd (Dn) 2), .int .u64 (wd (Dn) 3)] 24)
  have hD : (w9.alloc (.cells #[.int .u64 (wd (Dn) 0), .int .u64 (wd (Dn) 1), .int .u64 (wd (Dn) 2), .int .u64 (wd (Dn) 3)] 24)).rowIs w9.heap.size 24 4 (fun j => .int .u64 (wd Dn j)) := row_new (n := 4) rfl rfl (arr4 fun j => .int .u64 (wd Dn j))
  replace hB := hB.alloc hB.size (.cells #[.int .u64 (wd (Dn) 0), .int .u64 (wd (Dn) 1), .int .u64 (wd (Dn) 2), .int .u64 (wd (Dn) 3)] 24)
  generalize w9.alloc (.cells #[.int .u64 (wd (Dn) 0), .int .u64 (wd (Dn) 1), .int .u64 (wd (Dn) 2), .int .u64 (wd (Dn) 3)] 24) = wq at *
  generalize w9.heap.size = g6 at *
  have HA := veil (blk9 hA)
  have HC := veil (blk9 hC)
  go_upto_region 12 with (first
    | ((with_reducible refine at_slot 32 ?_); refine wpList_load_row rfl 26 _ rfl w.heap.size rfl 26 #[.int .u64 (wd (X1) 0), .int .u64 (wd (X1) 1), .int .u64 (wd (X1) 2), .int .u64 (wd (X1) 3), .int .u64 (wd (Y1) 0), .int .u64 (wd (Y1) 1), .int .u64 (wd (Y1) 2), .int .u64 (wd (Y1) 3), .bool (false)] (0, 0) _ HA.out Try.underlying26 rfl info_pt ?_)
    | ((with_reducible refine at_slot 33 ?_); refine wpList_load_row rfl 26 _ rfl (w.heap.size + 1) rfl 26 #[.int .u64 (wd (X2) 0), .int .u64 (wd (X2) 1), .int .u64 (wd (X2) 2), .int .u64 (wd (X2) 3), .int .u64 (wd (Y2) 0), .int .u64 (wd (Y2) 1), .int .u64 (wd (Y2) 2), .int .u64 (wd (Y2) 3), .bool (false)] (0, 0) _ HC.out Try.underlying26 rfl info_pt ?_))
  clear HA HC ks HS1 HS2
  obtain ⟨d0, d1, d2, d3⟩ := row_c4 hD
  have m6 := hD.lt
  go_cut [7, 8] from 50 to 55 (fun v7 v8 wx => ∃ (T g : Nat) (b : Bool), v7 = .pointer (some ⟨g, 0, none⟩) ∧ v8 = .bool b ∧ T < Pt.pp ∧ (Nat.gcd Dn Pt.pp = 1 → Dn * T % Pt.pp = 1) ∧ wq.heap.size ≤ g ∧ wx.rowIs g 24 4 (fun j => .int .u64 (wd T j)) ∧ Below wq.heap.size wq wx)
  case first =>
    clear hA hC hR hU hD hB
    go_region_held3 (fun w' => (∀ b o, b < wq.heap.size → w'.cell? ⟨b, o, none⟩ = wq.cell? ⟨b, o, none⟩) ∧ Below wq.heap.size wq w')
      (first
        | (with_reducible assumption)
        | (with_reducible exact keep_drew _)
        | (with_reducible exact keep_fresh _)
        | (with_reducible exact keep_alloc _ (by assumption))
        | ((with_reducible refine keep_swap (by assumption) ?_); first | exact Nat.le_refl _ | exact hb1.size | exact (Nat.le_trans hb1.size hb2.size))
        | ((with_reducible refine keep_put4 ?_ (by assumption)); first | exact Nat.le_refl _ | exact hb1.size | exact (Nat.le_trans hb1.size hb2.size))
        | (with_reducible exact keep_old (by assumption) (by assumption))
        | (fail))
      (first
        | (go_at_call 15; ((with_reducible refine (HP.out _).mono ?_); rintro e v1 ⟨rfl, hb1⟩; obtain ⟨hc1, hf1, hl1⟩ := below_look hb1))
        | (go_at_call 39; ((with_reducible refine (HI.out _).mono ?_); rintro e v2 ⟨T, hT1, hT2, rfl, hb2⟩; have HT := veil (And.intro hT1 hT2); clear hT1 hT2; obtain ⟨hc2, hf2, hl2⟩ := below_look hb2)))
    all_goals rename (_ ∧ Below wq.heap.size wq _) => hH
    · go_wp2
      go_meet
      exact ⟨_, _, _, rfl, rfl, HT.out.1, HT.out.2, (Nat.le_trans hb1.size hb2.size), row_new (n := 4) rfl rfl (arr4 fun j => .int .u64 (wd T j)), hH.2⟩
    · go_wp2
      go_meet
      exact ⟨_, _, _, rfl, rfl, HT.out.1, HT.out.2, hb1.size, put4 (row_below (row_new (n := 4) (f := fun _ => .int .u64 0) rfl rfl (arr4 fun _ => .int .u64 0)) hb2 (by simp)) (fun j => .int .u64 (wd T j)), hH.2⟩
    · go_wp2
      go_meet
      exact ⟨_, _, _, rfl, rfl, HT.out.1, HT.out.2, Nat.le_refl _, put4 (row_below (row_below (row_new (n := 4) (f := fun _ => .int .u64 0) rfl rfl (arr4 fun _ => .int .u64 0)).drew hb1 (by simp)) hb2 (Nat.lt_of_lt_of_le (by simp) hb1.size)) (fun j => .int .u64 (wd T j)), hH.2⟩
  case rest =>
    obtain ⟨T, g7, bi, rfl, rfl, hT1, hT2, _, hT, hb⟩ := hcut
    clear d0 d1 d2 d3 m6 HP HI
    replace hA := row_below hA hb hA.lt
    replace hC := row_below hC hb hC.lt
    replace hR := row_below hR hb hR.lt
    replace hU := row_below hU hb hU.lt
    replace hB := hB.trans (hb.mono hB.size)
    clear hb
    clear hD
    obtain ⟨L, hL⟩ : ∃ L, L = U * T % Pt.pp := ⟨_, rfl⟩
    obtain ⟨Q, hQ⟩ : ∃ Q, Q = L * L % Pt.pp := ⟨_, rfl⟩
    obtain ⟨R1, hR1⟩ : ∃ R, R = (Q + Pt.pp - X1) % Pt.pp := ⟨_, rfl⟩
    obtain ⟨X3, hX3⟩ : ∃ R, R = (R1 + Pt.pp - X2) % Pt.pp := ⟨_, rfl⟩
    obtain ⟨E1, hE1⟩ : ∃ R, R = (X1 + Pt.pp - X3) % Pt.pp := ⟨_, rfl⟩
    obtain ⟨F1, hF1⟩ : ∃ R, R = L * E1 % Pt.pp := ⟨_, rfl⟩
    obtain ⟨Y3, hY3⟩ : ∃ R, R = (F1 + Pt.pp - Y1) % Pt.pp := ⟨_, rfl⟩
    have hx : x3 U T X1 X2 = X3 := by unfold x3; rw [← hL, ← hQ, ← hR1, ← hX3]
    have hy : y3 U T X1 Y1 X2 = Y3 := by unfold y3; rw [hx, ← hL, ← hE1, ← hF1, ← hY3]
    have hmod : ∀ a, a % Pt.pp < Pt.pp := fun a => Nat.mod_lt _ pp_pos
    have lt : T < top := Nat.lt_trans hT1 pp_top
    have lL : L < Pt.pp := by rw [hL]; exact hmod _
    have lQ : Q < Pt.pp := by rw [hQ]; exact hmod _
    have lR1 : R1 < Pt.pp := by rw [hR1]; exact hmod _
    have lX3 : X3 < Pt.pp := by rw [hX3]; exact hmod _
    have lE1 : E1 < Pt.pp := by rw [hE1]; exact hmod _
    have lF1 : F1 < Pt.pp := by rw [hF1]; exact hmod _
    have J1 := veil (show ∀ W, Calls Try.prog 30 #[.agg #[.int .u64 (wd (U) 0), .int .u64 (wd (U) 1), .int .u64 (wd (U) 2), .int .u64 (wd (U) 3)], .agg #[.int .u64 (wd (T) 0), .int .u64 (wd (T) 1), .int .u64 (wd (T) 2), .int .u64 (wd (T) 3)]] W fun e W' => e = .returned (.agg #[.int .u64 (wd (L) 0), .int .u64 (wd (L) 1), .int .u64 (wd (L) 2), .int .u64 (wd (L) 3)]) ∧ Below W.heap.size W W' from fun W => rmul_is U T L HLT.out.2.2.2.2 lt hL W)
    have J2 := veil (show ∀ W, Calls Try.prog 30 #[.agg #[.int .u64 (wd (L) 0), .int .u64 (wd (L) 1), .int .u64 (wd (L) 2), .int .u64 (wd (L) 3)], .agg #[.int .u64 (wd (L) 0), .int .u64 (wd (L) 1), .int .u64 (wd (L) 2), .int .u64 (wd (L) 3)]] W fun e W' => e = .returned (.agg #[.int .u64 (wd (Q) 0), .int .u64 (wd (Q) 1), .int .u64 (wd (Q) 2), .int .u64 (wd (Q) 3)]) ∧ Below W.heap.size W W' from fun W => rmul_is L L Q lL (Nat.lt_trans lL pp_top) hQ W)
    have J3 := veil (show ∀ W, Calls Try.prog 32 #[.agg #[.int .u64 (wd (Q) 0), .int .u64 (wd (Q) 1), .int .u64 (wd (Q) 2), .int .u64 (wd (Q) 3)], .agg #[.int .u64 (wd (X1) 0), .int .u64 (wd (X1) 1), .int .u64 (wd (X1) 2), .int .u64 (wd (X1) 3)]] W fun e W' => e = .returned (.agg #[.int .u64 (wd (R1) 0), .int .u64 (wd (R1) 1), .int .u64 (wd (R1) 2), .int .u64 (wd (R1) 3)]) ∧ Below W.heap.size W W' from fun W => rsub_is Q X1 R1 lQ HLT.out.1 hR1 W)
    have J4 := veil (show ∀ W, Calls Try.prog 32 #[.agg #[.int .u64 (wd (R1) 0), .int .u64 (wd (R1) 1), .int .u64 (wd (R1) 2), .int .u64 (wd (R1) 3)], .agg #[.int .u64 (wd (X2) 0), .int .u64 (wd (X2) 1), .int .u64 (wd (X2) 2), .int .u64 (wd (X2) 3)]] W fun e W' => e = .returned (.agg #[.int .u64 (wd (X3) 0), .int .u64 (wd (X3) 1), .int .u64 (wd (X3) 2), .int .u64 (wd (X3) 3)]) ∧ Below W.heap.size W W' from fun W => rsub_is R1 X2 X3 lR1 HLT.out.2.2.1 hX3 W)
    have J5 := veil (show ∀ W, Calls Try.prog 32 #[.agg #[.int .u64 (wd (X1) 0), .int .u64 (wd (X1) 1), .int .u64 (wd (X1) 2), .int .u64 (wd (X1) 3)], .agg #[.int .u64 (wd (X3) 0), .int .u64 (wd (X3) 1), .int .u64 (wd (X3) 2), .int .u64 (wd (X3) 3)]] W fun e W' => e = .returned (.agg #[.int .u64 (wd (E1) 0), .int .u64 (wd (E1) 1), .int .u64 (wd (E1) 2), .int .u64 (wd (E1) 3)]) ∧ Below W.heap.size W W' from fun W => rsub_is X1 X3 E1 HLT.out.1 lX3 hE1 W)
    have J6 := veil (show ∀ W, Calls Try.prog 30 #[.agg #[.int .u64 (wd (L) 0), .int .u64 (wd (L) 1), .int .u64 (wd (L) 2), .int .u64 (wd (L) 3)], .agg #[.int .u64 (wd (E1) 0), .int .u64 (wd (E1) 1), .int .u64 (wd (E1) 2), .int .u64 (wd (E1) 3)]] W fun e W' => e = .returned (.agg #[.int .u64 (wd (F1) 0), .int .u64 (wd (F1) 1), .int .u64 (wd (F1) 2), .int .u64 (wd (F1) 3)]) ∧ Below W.heap.size W W' from fun W => rmul_is L E1 F1 lL (Nat.lt_trans lE1 pp_top) hF1 W)
    have J7 := veil (show ∀ W, Calls Try.prog 32 #[.agg #[.int .u64 (wd (F1) 0), .int .u64 (wd (F1) 1), .int .u64 (wd (F1) 2), .int .u64 (wd (F1) 3)], .agg #[.int .u64 (wd (Y1) 0), .int .u64 (wd (Y1) 1), .int .u64 (wd (Y1) 2), .int .u64 (wd (Y1) 3)]] W fun e W' => e = .returned (.agg #[.int .u64 (wd (Y3) 0), .int .u64 (wd (Y3) 1), .int .u64 (wd (Y3) 2), .int .u64 (wd (Y3) 3)]) ∧ Below W.heap.size W W' from fun W => rsub_is F1 Y1 Y3 lF1 HLT.out.2.1 hY3 W)
    have HXY := veil (And.intro hx (And.intro hy (And.intro hT1 hT2)))
    clear hL hQ hR1 hX3 hE1 hF1 hY3 hx hy hmod lt lL lQ lR1 lX3 lE1 lF1 hT1 hT2
    obtain ⟨u0, u1, u2, u3⟩ := row_c4 hU
    obtain ⟨t0, t1, t2, t3⟩ := row_c4 hT
    go_wp2_with fail
    refine (J1.out _).mono ?_
    rintro e w13 ⟨rfl, hb⟩
    clear u0 u1 u2 u3 t0 t1 t2 t3 hU hT
    replace hA := row_below hA hb hA.lt
    replace hC := row_below hC hb hC.lt
    replace hR := row_below hR hb hR.lt
    replace hB := hB.trans (hb.mono hB.size)
    clear hb
    go_upto_region 14 with (fail)
    have n9 := hR.lt
    replace hA := hA.alloc (.cells #[.int .u64 (wd (L) 0), .int .u64 (wd (L) 1), .int .u64 (wd (L) 2), .int .u64 (wd (L) 3)] 24)
    replace hC := hC.alloc (.cells #[.int .u64 (wd (L) 0), .int .u64 (wd (L) 1), .int .u64 (wd (L) 2), .int .u64 (wd (L) 3)] 24)
    replace hR := hR.alloc (.cells #[.int .u64 (wd (L) 0), .int .u64 (wd (L) 1), .int .u64 (wd (L) 2), .int .u64 (wd (L) 3)] 24)
    have hL : (w13.alloc (.cells #[.int .u64 (wd (L) 0), .int .u64 (wd (L) 1), .int .u64 (wd (L) 2), .int .u64 (wd (L) 3)] 24)).rowIs w13.heap.size 24 4 (fun j => .int .u64 (wd L j)) := row_new (n := 4) rfl rfl (arr4 fun j => .int .u64 (wd L j))
    replace hB := hB.alloc hB.size (.cells #[.int .u64 (wd (L) 0), .int .u64 (wd (L) 1), .int .u64 (wd (L) 2), .int .u64 (wd (L) 3)] 24)
    generalize w13.alloc (.cells #[.int .u64 (wd (L) 0), .int .u64 (wd (L) 1), .int .u64 (wd (L) 2), .int .u64 (wd (L) 3)] 24) = w14 at *
    generalize w13.heap.size = g9 at *
    obtain ⟨l0, l1, l2, l3⟩ := row_c4 hL
    obtain ⟨x0, x1, x2, x3'⟩ := pt_x hA
    obtain ⟨c0, c1, c2, c3⟩ := pt_x hC
    have m1 := hA.lt
    have m2 := hC.lt
    have m3 := hL.lt
    go_cut [10] from 59 to 67 (fun v10 wx => ∃ g : Nat, v10 = .pointer (some ⟨g, 0, none⟩) ∧ w14.heap.size ≤ g ∧ wx.rowIs g 24 4 (fun j => .int .u64 (wd X3 j)) ∧ Below w14.heap.size w14 wx)
    case first =>
      clear hA hC hR hL hB
      go_region_held3 (fun w' => (∀ b o, b < w14.heap.size → w'.cell? ⟨b, o, none⟩ = w14.cell? ⟨b, o, none⟩) ∧ Below w14.heap.size w14 w')
        (first
          | (with_reducible assumption)
          | (with_reducible exact keep_drew _)
          | (with_reducible exact keep_fresh _)
          | (with_reducible exact keep_alloc _ (by assumption))
          | ((with_reducible refine keep_swap (by assumption) ?_); first | exact Nat.le_refl _ | exact hb1.size | exact (Nat.le_trans hb1.size hb2.size) | exact (Nat.le_trans (Nat.le_trans hb1.size hb2.size) hb3.size))
          | ((with_reducible refine keep_put4 ?_ (by assumption)); first | exact Nat.le_refl _ | exact hb1.size | exact (Nat.le_trans hb1.size hb2.size) | exact (Nat.le_trans (Nat.le_trans hb1.size hb2.size) hb3.size))
          | (with_reducible exact keep_old (by assumption) (by assumption))
          | (fail))
        (first
          | (go_at_call 30; ((with_reducible refine (J2.out _).mono ?_); rintro e v1 ⟨rfl, hb1⟩; obtain ⟨hc1, hf1, hl1⟩ := below_look hb1))
          | (go_at_call 32; first | ((with_reducible refine (J3.out _).mono ?_); rintro e v2 ⟨rfl, hb2⟩; obtain ⟨hc2, hf2, hl2⟩ := below_look hb2; try have hl2' := fun b h => hl2 b (hl1 b h)) | ((with_reducible refine (J4.out _).mono ?_); rintro e v3 ⟨rfl, hb3⟩; obtain ⟨hc3, hf3, hl3⟩ := below_look hb3)))
      all_goals rename (_ ∧ Below w14.heap.size w14 _) => hH
      · go_wp2
        go_meet
        exact ⟨_, rfl, (Nat.le_trans (Nat.le_trans hb1.size hb2.size) hb3.size), row_new (n := 4) rfl rfl (arr4 fun j => .int .u64 (wd X3 j)), hH.2⟩
      · go_wp2
        go_meet
        exact ⟨_, rfl, (Nat.le_trans hb1.size hb2.size), put4 (row_below (row_new (n := 4) (f := fun _ => .int .u64 0) rfl rfl (arr4 fun _ => .int .u64 0)) hb3 (by simp)) (fun j => .int .u64 (wd X3 j)), hH.2⟩
      · go_wp2
        go_meet
        exact ⟨_, rfl, hb1.size, put4 (row_below (row_below (row_new (n := 4) (f := fun _ => .int .u64 0) rfl rfl (arr4 fun _ => .int .u64 0)) hb2 (by simp)) hb3 (Nat.lt_of_lt_of_le (by simp) hb2.size)) (fun j => .int .u64 (wd X3 j)), hH.2⟩
      · go_wp2
        go_meet
        exact ⟨_, rfl, Nat.le_refl _, put4 (row_below (row_below (row_below (row_new (n := 4) (f := fun _ => .int .u64 0) rfl rfl (arr4 fun _ => .int .u64 0)).drew hb1 (by simp)) hb2 (Nat.lt_of_lt_of_le (by simp) hb1.size)) hb3 (Nat.lt_of_lt_of_le (Nat.lt_of_lt_of_le (by simp) hb1.size) hb2.size)) (fun j => .int .u64 (wd X3 j)), hH.2⟩
    case rest =>
      obtain ⟨g10, rfl, n10, hX, hb⟩ := hcut
      clear l0 l1 l2 l3 x0 x1 x2 x3' c0 c1 c2 c3 m1 m2 m3
      have nR := hR.lt
      replace hA := row_below hA hb hA.lt
      replace hL := row_below hL hb hL.lt
      replace hR := row_below hR hb hR.lt
      replace hB := hB.trans (hb.mono hB.size)
      clear hb
      clear hC
      go_upto_region 15 with (fail)
      obtain ⟨l0, l1, l2, l3⟩ := row_c4 hL
      obtain ⟨x0, x1, x2, x3'⟩ := pt_x hA
      obtain ⟨y0, y1, y2, y3'⟩ := pt_y hA
      obtain ⟨k0, k1, k2, k3⟩ := row_c4 hX
      have m1 := hA.lt
      have m2 := hL.lt
      have m3 := hX.lt
      have sB : ∀ W, Bt (w.heap.size + 1 + 1) 26 9 wc W → (Bt (w.heap.size + 1 + 1) 26 9 wc W ∧ W.cell? ⟨g10, 0, none⟩ = some (.int .u64 (wd X3 0)) ∧ W.cell? ⟨g10, 1, none⟩ = some (.int .u64 (wd X3 1)) ∧ W.cell? ⟨g10, 2, none⟩ = some (.int .u64 (wd X3 2)) ∧ W.cell? ⟨g10, 3, none⟩ = some (.int .u64 (wd X3 3)) ∧ W.cell? ⟨g9, 0, none⟩ = some (.int .u64 (wd L 0)) ∧ W.cell? ⟨g9, 1, none⟩ = some (.int .u64 (wd L 1)) ∧ W.cell? ⟨g9, 2, none⟩ = some (.int .u64 (wd L 2)) ∧ W.cell? ⟨g9, 3, none⟩ = some (.int .u64 (wd L 3)) ∧ W.cell? ⟨w.heap.size, 0, none⟩ = some (.int .u64 (wd X1 0)) ∧ W.cell? ⟨w.heap.size, 1, none⟩ = some (.int .u64 (wd X1 1)) ∧ W.cell? ⟨w.heap.size, 2, none⟩ = some (.int .u64 (wd X1 2)) ∧ W.cell? ⟨w.heap.size, 3, none⟩ = some (.int .u64 (wd X1 3)) ∧ W.cell? ⟨w.heap.size, 4, none⟩ = some (.int .u64 (wd Y1 0)) ∧ W.cell? ⟨w.heap.size, 5, none⟩ = some (.int .u64 (wd Y1 1)) ∧ W.cell? ⟨w.heap.size, 6, none⟩ = some (.int .u64 (wd Y1 2)) ∧ W.cell? ⟨w.heap.size, 7, none⟩ = some (.int .u64 (wd Y1 3))) := fun W hB => ⟨hB, (hB.cell m3 (by omega)).trans k0, (hB.cell m3 (by omega)).trans k1, (hB.cell m3 (by omega)).trans k2, (hB.cell m3 (by omega)).trans k3, (hB.cell m2 (by omega)).trans l0, (hB.cell m2 (by omega)).trans l1, (hB.cell m2 (by omega)).trans l2, (hB.cell m2 (by omega)).trans l3, (hB.cell m1 (by omega)).trans x0, (hB.cell m1 (by omega)).trans x1, (hB.cell m1 (by omega)).trans x2, (hB.cell m1 (by omega)).trans x3', (hB.cell m1 (by omega)).trans y0, (hB.cell m1 (by omega)).trans y1, (hB.cell m1 (by omega)).trans y2, (hB.cell m1 (by omega)).trans y3'⟩
      have hS0 := sB wc (.of hR (But.refl _ _))
      have SB := veil sB
      have HBB := veil hB
      clear sB hB hA hL hX hR
      refine wp_region_held_drew (S := fun W => Bt (w.heap.size + 1 + 1) 26 9 wc W ∧ W.cell? ⟨g10, 0, none⟩ = some (.int .u64 (wd X3 0)) ∧ W.cell? ⟨g10, 1, none⟩ = some (.int .u64 (wd X3 1)) ∧ W.cell? ⟨g10, 2, none⟩ = some (.int .u64 (wd X3 2)) ∧ W.cell? ⟨g10, 3, none⟩ = some (.int .u64 (wd X3 3)) ∧ W.cell? ⟨g9, 0, none⟩ = some (.int .u64 (wd L 0)) ∧ W.cell? ⟨g9, 1, none⟩ = some (.int .u64 (wd L 1)) ∧ W.cell? ⟨g9, 2, none⟩ = some (.int .u64 (wd L 2)) ∧ W.cell? ⟨g9, 3, none⟩ = some (.int .u64 (wd L 3)) ∧ W.cell? ⟨w.heap.size, 0, none⟩ = some (.int .u64 (wd X1 0)) ∧ W.cell? ⟨w.heap.size, 1, none⟩ = some (.int .u64 (wd X1 1)) ∧ W.cell? ⟨w.heap.size, 2, none⟩ = some (.int .u64 (wd X1 2)) ∧ W.cell? ⟨w.heap.size, 3, none⟩ = some (.int .u64 (wd X1 3)) ∧ W.cell? ⟨w.heap.size, 4, none⟩ = some (.int .u64 (wd Y1 0)) ∧ W.cell? ⟨w.heap.size, 5, none⟩ = some (.int .u64 (wd Y1 1)) ∧ W.cell? ⟨w.heap.size, 6, none⟩ = some (.int .u64 (wd Y1 2)) ∧ W.cell? ⟨w.heap.size, 7, none⟩ = some (.int .u64 (wd Y1 3))) (by kernel_rfl) (SB.out _ hS0.1.drew) (fun hH => ?_)
      repeat
        ((first
            | (refine wpAnyH_take (i := 0) (v := .agg #[.int .u64 (wd (X3) 0), .int .u64 (wd (X3) 1), .int .u64 (wd (X3) 2), .int .u64 (wd (X3) 3)]) rfl (by kernel_rfl) (by kernel_rfl) (by decide +kernel) (fun _ _ _ h => h) (Or.inl ⟨by rfl, fun W hSw => (by dsimp only at hSw; go_simp)⟩) (by with_reducible assumption) ?_)
            | (refine wpAnyH_take (i := 1) (v := .agg #[.int .u64 (wd (L) 0), .int .u64 (wd (L) 1), .int .u64 (wd (L) 2), .int .u64 (wd (L) 3)]) rfl (by kernel_rfl) (by kernel_rfl) (by decide +kernel) (fun _ _ _ h => h) (Or.inl ⟨by rfl, fun W hSw => (by dsimp only at hSw; go_simp)⟩) (by with_reducible assumption) ?_)
            | (refine wpAnyH_take (i := 2) (v := .pointer (some ⟨w.heap.size, 0, none⟩)) rfl (by kernel_rfl) (by kernel_rfl) (by decide +kernel) (fun _ _ _ h => h) (Or.inl ⟨by rfl, fun W hSw => (by dsimp only at hSw; go_simp)⟩) (by with_reducible assumption) ?_)
            | (refine wpAnyH_take (i := 3) (v := .agg #[.int .u64 (wd (X1) 0), .int .u64 (wd (X1) 1), .int .u64 (wd (X1) 2), .int .u64 (wd (X1) 3)]) rfl (by kernel_rfl) (by kernel_rfl) (by decide +kernel) (fun _ _ _ h => h) (Or.inl ⟨by rfl, fun W hSw => (by dsimp only at hSw; go_simp)⟩) (by with_reducible assumption) ?_)
            | (refine wpAnyH_take (i := 4) (v := .agg #[.int .u64 (wd (X3) 0), .int .u64 (wd (X3) 1), .int .u64 (wd (X3) 2), .int .u64 (wd (X3) 3)]) rfl (by kernel_rfl) (by kernel_rfl) (by decide +kernel) (fun _ _ _ h => h) (Or.inl ⟨by rfl, fun W hSw => (by dsimp only at hSw; go_simp)⟩) (by with_reducible assumption) ?_)
            | (refine wpAnyH_ready (rs := [5]) (by decide +kernel) (by simp) ?_; refine AllReadyH.cons rfl (fun K hK => ?_) AllReadyH.nil; go_simp; (with_reducible refine (J5.out _).mono ?_); rintro e w15 ⟨rfl, hb⟩; have hb1 := hS0.1.drew.call hb; clear hb; refine hK.out _ _ (SB.out _ hb1) (fun hH => ?_); clear hK K)
            | (refine wpAnyH_ready (rs := [6]) (by decide +kernel) (by simp) ?_; refine AllReadyH.cons rfl (fun K hK => ?_) AllReadyH.nil; go_simp; (with_reducible refine (J6.out _).mono ?_); rintro e w16 ⟨rfl, hb⟩; have hb2 := hb1.call hb; clear hb; refine hK.out _ _ (SB.out _ hb2) (fun hH => ?_); clear hK K)
            | (refine wpAnyH_take (i := 7) (v := .pointer (some ⟨w.heap.size, 4, none⟩)) rfl (by kernel_rfl) (by kernel_rfl) (by decide +kernel) (fun _ _ _ h => h) (Or.inl ⟨by rfl, fun W hSw => (by dsimp only at hSw; go_simp)⟩) (by with_reducible assumption) ?_)
            | (refine wpAnyH_take (i := 8) (v := .agg #[.int .u64 (wd (Y1) 0), .int .u64 (wd (Y1) 1), .int .u64 (wd (Y1) 2), .int .u64 (wd (Y1) 3)]) rfl (by kernel_rfl) (by kernel_rfl) (by decide +kernel) (fun _ _ _ h => h) (Or.inl ⟨by rfl, fun W hSw => (by dsimp only at hSw; go_simp)⟩) (by with_reducible assumption) ?_)
            | (refine wpAnyH_ready (rs := [9]) (by decide +kernel) (by simp) ?_; refine AllReadyH.cons rfl (fun K hK => ?_) AllReadyH.nil; go_simp; (with_reducible refine (J7.out _).mono ?_); rintro e w17 ⟨rfl, hb⟩; have hb3 := hb2.call hb; clear hb; obtain ⟨fz, hz⟩ := hb3.2; have HZ := veil (blkOf hz); clear hz; refine hK.out _ _ (SB.out _ hb3) (fun hH => ?_); clear hK K)
            | (refine wpAnyH_take (i := 10) (v := .agg #[.int .u64 (wd (X3) 0), .int .u64 (wd (X3) 1), .int .u64 (wd (X3) 2), .int .u64 (wd (X3) 3), .int .u64 (wd (Y3) 0), .int .u64 (wd (Y3) 1), .int .u64 (wd (Y3) 2), .int .u64 (wd (Y3) 3), .bool (false)]) rfl (by kernel_rfl) (by kernel_rfl) (by decide +kernel) (fun _ _ _ h => h) (Or.inl ⟨by rfl, fun W hSw => (by dsimp only at hSw; go_simp)⟩) (by with_reducible assumption) ?_)
            | (refine wpAnyH_ready (rs := [11]) (by decide +kernel) (by simp) ?_; refine AllReadyH.cons rfl (fun K hK => ?_) AllReadyH.nil; refine step_store_row rfl 26 _ _ rfl (w.heap.size + 1 + 1) #[.int .u64 (wd (X3) 0), .int .u64 (wd (X3) 1), .int .u64 (wd (X3) 2), .int .u64 (wd (X3) 3), .int .u64 (wd (Y3) 0), .int .u64 (wd (Y3) 1), .int .u64 (wd (Y3) 2), .int .u64 (wd (Y3) 3), .bool (false)] rfl rfl 26 _ HZ.out info_pt (by rw [arrOf_size]; rfl) (one9 X3 Y3 false) ?_; refine hK.out _ _ (SB.out _ (hb3.setRow rfl)) (fun hH => ?_); clear hK K)
            | fail);
          try simp only [Act.put, List.setIfInBounds_toArray, List.set_cons_zero, List.set_cons_succ, List.getElem_toArray, List.getElem_cons_zero, List.getElem_cons_succ])
      refine wpAnyH_done (by decide +kernel) ?_ _
      have HFIN := veil (setRow_heap _ (w.heap.size + 1 + 1) _ #[.int .u64 (wd (X3) 0), .int .u64 (wd (X3) 1), .int .u64 (wd (X3) 2), .int .u64 (wd (X3) 3), .int .u64 (wd (Y3) 0), .int .u64 (wd (Y3) 1), .int .u64 (wd (Y3) 2), .int .u64 (wd (Y3) 3), .bool (false)] 26 (0, 0) HZ.out)
      clear hH
      go_wp2
      exact bodyPost_ret (results_cell_row rfl _ _ (w.heap.size + 1 + 1) 26 #[.int .u64 (wd (X3) 0), .int .u64 (wd (X3) 1), .int .u64 (wd (X3) 2), .int .u64 (wd (X3) 3), .int .u64 (wd (Y3) 0), .int .u64 (wd (Y3) 1), .int .u64 (wd (Y3) 2), .int .u64 (wd (Y3) 3), .bool (false)] (0, 0) _ rfl HFIN.out Try.underlying26 rfl info_pt) rfl ⟨T, HXY.out.2.2.1, HXY.out.2.2.2, by rw [HXY.out.1, HXY.out.2.1], HBB.out.trans ((hb3.setRow (cs := #[.int .u64 (wd (X3) 0), .int .u64 (wd (X3) 1), .int .u64 (wd (X3) 2), .int .u64 (wd (X3) 3), .int .u64 (wd (Y3) 0), .int .u64 (wd (Y3) 1), .int .u64 (wd (Y3) 2), .int .u64 (wd (Y3) 3), .bool (false)]) rfl).below (by omega) HBB.out.size)⟩
end Go.Proofs.Ytppfcdpokgnpfaa


/-
  clapperref05.Add: a point and itself.
-/
namespace Go.Proofs.Ytppfcdpokgnpfaa
open Go.RowKit

set_option maxRecDepth 100000 in
theorem lits1 : wd 1 0 = 1 ∧ wd 1 1 = 0 ∧ wd 1 2 = 0 ∧ wd 1 3 = 0 := by decide
set_option maxRecDepth 100000 in
set_option maxHeartbeats 8000000 in
theorem radd_same (X1 Y1 A B U Dn : Nat) (hX1 : X1 < Pt.pp) (hY1 : Y1 < Pt.pp) (hn : ¬ Y1 = (0 + Pt.pp - Y1) % Pt.pp) (hA' : A = X1 * X1 % Pt.pp) (hB' : B = (A + Pt.pp - 1) % Pt.pp) (hU : U = 3 * B % Pt.pp) (hD : Dn = (Y1 + Y1) % Pt.pp) (w : World) :
    Calls Try.prog 21 #[.agg #[.int .u64 (wd (X1) 0), .int .u64 (wd (X1) 1), .int .u64 (wd (X1) 2), .int .u64 (wd (X1) 3), .int .u64 (wd (Y1) 0), .int .u64 (wd (Y1) 1), .int .u64 (wd (Y1) 2), .int .u64 (wd (Y1) 3), .bool (false)], .agg #[.int .u64 (wd (X1) 0), .int .u64 (wd (X1) 1), .int .u64 (wd (X1) 2), .int .u64 (wd (X1) 3), .int .u64 (wd (Y1) 0), .int .u64 (wd (Y1) 1), .int .u64 (wd (Y1) 2), .int .u64 (wd (Y1) 3), .bool (false)]] w fun e w' => ∃ T, T < Pt.pp ∧ (Nat.gcd Dn Pt.pp = 1 → Dn * T % Pt.pp = 1) ∧ e = .returned (.agg #[.int .u64 (wd (x3 U T X1 X1) 0), .int .u64 (wd (x3 U T X1 X1) 1), .int .u64 (wd (x3 U T X1 X1) 2), .int .u64 (wd (x3 U T X1 X1) 3), .int .u64 (wd (y3 U T X1 Y1 X1) 0), .int .u64 (wd (y3 U T X1 Y1 X1) 1), .int .u64 (wd (y3 U T X1 Y1 X1) 2), .int .u64 (wd (y3 U T X1 Y1 X1) 3), .bool (false)]) ∧ Below w.heap.size w w' := by
  have hA : (((w.alloc (.cells #[.int .u64 (wd (X1) 0), .int .u64 (wd (X1) 1), .int .u64 (wd (X1) 2), .int .u64 (wd (X1) 3), .int .u64 (wd (Y1) 0), .int .u64 (wd (Y1) 1), .int .u64 (wd (Y1) 2), .int .u64 (wd (Y1) 3), .bool (false)] 26)).alloc (.cells #[.int .u64 (wd (X1) 0), .int .u64 (wd (X1) 1), .int .u64 (wd (X1) 2), .int .u64 (wd (X1) 3), .int .u64 (wd (Y1) 0), .int .u64 (wd (Y1) 1), .int .u64 (wd (Y1) 2), .int .u64 (wd (Y1) 3), .bool (false)] 26)).alloc (.cells #[.int .u64 0, .int .u64 0, .int .u64 0, .int .u64 0, .int .u64 0, .int .u64 0, .int .u64 0, .int .u64 0, .bool false] 26)).rowIs w.heap.size 26 9 (pc X1 Y1 false) := ((pt_new X1 Y1 false rfl).alloc _).alloc _
  have hC : (((w.alloc (.cells #[.int .u64 (wd (X1) 0), .int .u64 (wd (X1) 1), .int .u64 (wd (X1) 2), .int .u64 (wd (X1) 3), .int .u64 (wd (Y1) 0), .int .u64 (wd (Y1) 1), .int .u64 (wd (Y1) 2), .int .u64 (wd (Y1) 3), .bool (false)] 26)).alloc (.cells #[.int .u64 (wd (X1) 0), .int .u64 (wd (X1) 1), .int .u64 (wd (X1) 2), .int .u64 (wd (X1) 3), .int .u64 (wd (Y1) 0), .int .u64 (wd (Y1) 1), .int .u64 (wd (Y1) 2), .int .u64 (wd (Y1) 3), .bool (false)] 26)).alloc (.cells #[.int .u64 0, .int .u64 0, .int .u64 0, .int .u64 0, .int .u64 0, .int .u64 0, .int .u64 0, .int .u64 0, .bool false] 26)).rowIs (w.heap.size + 1) 26 9 (pc X1 Y1 false) := (pt_new X1 Y1 false (by simp)).alloc _
  have hR : (((w.alloc (.cells #[.int .u64 (wd (X1) 0), .int .u64 (wd (X1) 1), .int .u64 (wd (X1) 2), .int .u64 (wd (X1) 3), .int .u64 (wd (Y1) 0), .int .u64 (wd (Y1) 1), .int .u64 (wd (Y1) 2), .int .u64 (wd (Y1) 3), .bool (false)] 26)).alloc (.cells #[.int .u64 (wd (X1) 0), .int .u64 (wd (X1) 1), .int .u64 (wd (X1) 2), .int .u64 (wd (X1) 3), .int .u64 (wd (Y1) 0), .int .u64 (wd (Y1) 1), .int .u64 (wd (Y1) 2), .int .u64 (wd (Y1) 3), .bool (false)] 26)).alloc (.cells #[.int .u64 0, .int .u64 0, .int .u64 0, .int .u64 0, .int .u64 0, .int .u64 0, .int .u64 0, .int .u64 0, .bool false] 26)).rowIs (w.heap.size + 1 + 1) 26 9 (pc 0 0 false) := zero_row (by simp)
  have hB : Below w.heap.size w (((w.alloc (.cells #[.int .u64 (wd (X1) 0), .int .u64 (wd (X1) 1), .int .u64 (wd (X1) 2), .int .u64 (wd (X1) 3), .int .u64 (wd (Y1) 0), .int .u64 (wd (Y1) 1), .int .u64 (wd (Y1) 2), .int .u64 (wd (Y1) 3), .bool (false)] 26)).alloc (.cells #[.int .u64 (wd (X1) 0), .int .u64 (wd (X1) 1), .int .u64 (wd (X1) 2), .int .u64 (wd (X1) 3), .int .u64 (wd (Y1) 0), .int .u64 (wd (Y1) 1), .int .u64 (wd (Y1) 2), .int .u64 (wd (Y1) 3), .bool (false)] 26)).alloc (.cells #[.int .u64 0, .int .u64 0, .int .u64 0, .int .u64 0, .int .u64 0, .int .u64 0, .int .u64 0, .int .u64 0, .bool false] 26)) := (((Below.refl _ _).alloc (by simp) _).alloc (by simp) _).alloc (by simp; omega) _
  obtain ⟨Z, hZ⟩ : ∃ Z, Z = (0 + Pt.pp - Y1) % Pt.pp := ⟨_, rfl⟩
  have HN := veil (show ∀ W, Calls Try.prog 20 #[.agg #[.int .u64 (wd (X1) 0), .int .u64 (wd (X1) 1), .int .u64 (wd (X1) 2), .int .u64 (wd (X1) 3), .int .u64 (wd (Y1) 0), .int .u64 (wd (Y1) 1), .int .u64 (wd (Y1) 2), .int .u64 (wd (Y1) 3), .bool (false)]] W fun e W' => e = .returned (.agg #[.int .u64 (wd (X1) 0), .int .u64 (wd (X1) 1), .int .u64 (wd (X1) 2), .int .u64 (wd (X1) 3), .int .u64 (wd (Z) 0), .int .u64 (wd (Z) 1), .int .u64 (wd (Z) 2), .int .u64 (wd (Z) 3), .bool (false)]) ∧ Below W.heap.size W W' from fun W => rneg_is X1 Y1 Z false hY1 hZ W)
  have lZ : Z < top := by rw [hZ]; exact Nat.lt_trans (Nat.mod_lt _ pp_pos) pp_top
  have kq : ∀ W, (binOp .eql 26 (.agg #[.int .u64 (wd (X1) 0), .int .u64 (wd (X1) 1), .int .u64 (wd (X1) 2), .int .u64 (wd (X1) 3), .int .u64 (wd (Y1) 0), .int .u64 (wd (Y1) 1), .int .u64 (wd (Y1) 2), .int .u64 (wd (Y1) 3), .bool (false)]) (.agg #[.int .u64 (wd (X1) 0), .int .u64 (wd (X1) 1), .int .u64 (wd (X1) 2), .int .u64 (wd (X1) 3), .int .u64 (wd (Z) 0), .int .u64 (wd (Z) 1), .int .u64 (wd (Z) 2), .int .u64 (wd (Z) 3), .bool (false)])).run Try.prog W = .ok (.bool false) W := fun W => by
    rw [eql_pt (Nat.lt_trans hX1 pp_top) (Nat.lt_trans hY1 pp_top) (Nat.lt_trans hX1 pp_top) lZ false false W, decide_eq_false fun h => hn (by rw [← hZ]; exact h.2.1)]
  have ks : ∀ W, (binOp .eql 26 (.agg #[.int .u64 (wd (X1) 0), .int .u64 (wd (X1) 1), .int .u64 (wd (X1) 2), .int .u64 (wd (X1) 3), .int .u64 (wd (Y1) 0), .int .u64 (wd (Y1) 1), .int .u64 (wd (Y1) 2), .int .u64 (wd (Y1) 3), .bool (false)]) (.agg #[.int .u64 (wd (X1) 0), .int .u64 (wd (X1) 1), .int .u64 (wd (X1) 2), .int .u64 (wd (X1) 3), .int .u64 (wd (Y1) 0), .int .u64 (wd (Y1) 1), .int .u64 (wd (Y1) 2), .int .u64 (wd (Y1) 3), .bool (false)])).run Try.prog W = .ok (.bool true) W := fun W => by
    rw [eql_pt (Nat.lt_trans hX1 pp_top) (Nat.lt_trans hY1 pp_top) (Nat.lt_trans hX1 pp_top) (Nat.lt_trans hY1 pp_top) false false W, decide_eq_true ⟨rfl, rfl, rfl⟩]
  obtain ⟨M, hM⟩ : ∃ M, M = Pt.pp := ⟨_, rfl⟩
  obtain ⟨U0, hU0⟩ : ∃ R, R = (Y1 + Pt.pp - Y1) % Pt.pp := ⟨_, rfl⟩
  obtain ⟨D0, hD0⟩ : ∃ R, R = (X1 + Pt.pp - X1) % Pt.pp := ⟨_, rfl⟩
  have hmod : ∀ a, a % Pt.pp < Pt.pp := fun a => Nat.mod_lt _ pp_pos
  have lAA : A < Pt.pp := by rw [hA']; exact hmod _
  have lBB : B < Pt.pp := by rw [hB']; exact hmod _
  have lU : U < Pt.pp := by rw [hU]; exact hmod _
  have lD : Dn < Pt.pp := by rw [hD]; exact hmod _
  obtain ⟨i0, i1, i2, i3⟩ := lits3
  obtain ⟨j0, j1, j2, j3⟩ := lits1
  have HP := veil (show ∀ W, Calls Try.prog 15 #[] W fun e W' => e = .returned (.agg #[.int .u64 (wd (M) 0), .int .u64 (wd (M) 1), .int .u64 (wd (M) 2), .int .u64 (wd (M) 3)]) ∧ Below W.heap.size W W' from fun W => by rw [hM]; exact rp_calls W)
  have HI := veil (show ∀ W, Calls Try.prog 39 #[.agg #[.int .u64 (wd (Dn) 0), .int .u64 (wd (Dn) 1), .int .u64 (wd (Dn) 2), .int .u64 (wd (Dn) 3)], .agg #[.int .u64 (wd (M) 0), .int .u64 (wd (M) 1), .int .u64 (wd (M) 2), .int .u64 (wd (M) 3)]] W fun e W' => ∃ T, T < Pt.pp ∧ (Nat.gcd Dn Pt.pp = 1 → Dn * T % Pt.pp = 1) ∧ e = .returned (.tuple #[.agg #[.int .u64 (wd (T) 0), .int .u64 (wd (T) 1), .int .u64 (wd (T) 2), .int .u64 (wd (T) 3)], .bool (Nat.gcd Dn Pt.pp == 1)]) ∧ Below W.heap.size W W' from fun W => by rw [hM]; exact ginv_calls Dn Pt.pp lD pp_one pp_odd pp_top W)
  have HS1 := veil (show ∀ W, Calls Try.prog 32 #[.agg #[.int .u64 (wd (Y1) 0), .int .u64 (wd (Y1) 1), .int .u64 (wd (Y1) 2), .int .u64 (wd (Y1) 3)], .agg #[.int .u64 (wd (Y1) 0), .int .u64 (wd (Y1) 1), .int .u64 (wd (Y1) 2), .int .u64 (wd (Y1) 3)]] W fun e W' => e = .returned (.agg #[.int .u64 (wd (U0) 0), .int .u64 (wd (U0) 1), .int .u64 (wd (U0) 2), .int .u64 (wd (U0) 3)]) ∧ Below W.heap.size W W' from fun W => rsub_is Y1 Y1 U0 hY1 hY1 hU0 W)
  have HS2 := veil (show ∀ W, Calls Try.prog 32 #[.agg #[.int .u64 (wd (X1) 0), .int .u64 (wd (X1) 1), .int .u64 (wd (X1) 2), .int .u64 (wd (X1) 3)], .agg #[.int .u64 (wd (X1) 0), .int .u64 (wd (X1) 1), .int .u64 (wd (X1) 2), .int .u64 (wd (X1) 3)]] W fun e W' => e = .returned (.agg #[.int .u64 (wd (D0) 0), .int .u64 (wd (D0) 1), .int .u64 (wd (D0) 2), .int .u64 (wd (D0) 3)]) ∧ Below W.heap.size W W' from fun W => rsub_is X1 X1 D0 hX1 hX1 hD0 W)
  have K1 := veil (show ∀ W, Calls Try.prog 30 #[.agg #[.int .u64 (wd (X1) 0), .int .u64 (wd (X1) 1), .int .u64 (wd (X1) 2), .int .u64 (wd (X1) 3)], .agg #[.int .u64 (wd (X1) 0), .int .u64 (wd (X1) 1), .int .u64 (wd (X1) 2), .int .u64 (wd (X1) 3)]] W fun e W' => e = .returned (.agg #[.int .u64 (wd (A) 0), .int .u64 (wd (A) 1), .int .u64 (wd (A) 2), .int .u64 (wd (A) 3)]) ∧ Below W.heap.size W W' from fun W => rmul_is X1 X1 A hX1 (Nat.lt_trans hX1 pp_top) hA' W)
  have K2 := veil (show ∀ W, Calls Try.prog 32 #[.agg #[.int .u64 (wd (A) 0), .int .u64 (wd (A) 1), .int .u64 (wd (A) 2), .int .u64 (wd (A) 3)], .agg #[.int .u64 1, .int .u64 0, .int .u64 0, .int .u64 0]] W fun e W' => e = .returned (.agg #[.int .u64 (wd (B) 0), .int .u64 (wd (B) 1), .int .u64 (wd (B) 2), .int .u64 (wd (B) 3)]) ∧ Below W.heap.size W W' from fun W => by have h := rsub_is A 1 B lAA pp_one hB' W; rw [j0, j1, j2, j3] at h; exact h)
  have K3 := veil (show ∀ W, Calls Try.prog 30 #[.agg #[.int .u64 3, .int .u64 0, .int .u64 0, .int .u64 0], .agg #[.int .u64 (wd (B) 0), .int .u64 (wd (B) 1), .int .u64 (wd (B) 2), .int .u64 (wd (B) 3)]] W fun e W' => e = .returned (.agg #[.int .u64 (wd (U) 0), .int .u64 (wd (U) 1), .int .u64 (wd (U) 2), .int .u64 (wd (U) 3)]) ∧ Below W.heap.size W W' from fun W => by have h := rmul_is 3 B U three_lt (Nat.lt_trans lBB pp_top) hU W; rw [i0, i1, i2, i3] at h; exact h)
  have K4 := veil (show ∀ W, Calls Try.prog 31 #[.agg #[.int .u64 (wd (Y1) 0), .int .u64 (wd (Y1) 1), .int .u64 (wd (Y1) 2), .int .u64 (wd (Y1) 3)], .agg #[.int .u64 (wd (Y1) 0), .int .u64 (wd (Y1) 1), .int .u64 (wd (Y1) 2), .int .u64 (wd (Y1) 3)], .agg #[.int .u64 (wd (M) 0), .int .u64 (wd (M) 1), .int .u64 (wd (M) 2), .int .u64 (wd (M) 3)]] W fun e W' => e = .returned (.agg #[.int .u64 (wd (Dn) 0), .int .u64 (wd (Dn) 1), .int .u64 (wd (Dn) 2), .int .u64 (wd (Dn) 3)]) ∧ Below W.heap.size W W' from fun W => by rw [hM, hD]; exact gadd_calls Y1 Y1 Pt.pp hY1 hY1 pp_top W)
  have HLT := veil (And.intro hX1 (And.intro hY1 (And.intro hX1 (And.intro hY1 lU))))
  clear hZ hn hX1 hY1 lZ hM hU hD lU lD hU0 hD0 hmod lAA lBB hA' hB' i0 i1 i2 i3 j0 j1 j2 j3
  go_enter Try.func21, Try.ntmps21
  go_upto_region 1 with (fail)
  generalize (((w.alloc (.cells #[.int .u64 (wd (X1) 0), .int .u64 (wd (X1) 1), .int .u64 (wd (X1) 2), .int .u64 (wd (X1) 3), .int .u64 (wd (Y1) 0), .int .u64 (wd (Y1) 1), .int .u64 (wd (Y1) 2), .int .u64 (wd (Y1) 3), .bool (false)] 26)).alloc (.cells #[.int .u64 (wd (X1) 0), .int .u64 (wd (X1) 1), .int .u64 (wd (X1) 2), .int .u64 (wd (X1) 3), .int .u64 (wd (Y1) 0), .int .u64 (wd (Y1) 1), .int .u64 (wd (Y1) 2), .int .u64 (wd (Y1) 3), .bool (false)] 26)).alloc (.cells #[.int .u64 0, .int .u64 0, .int .u64 0, .int .u64 0, .int .u64 0, .int .u64 0, .int .u64 0, .int .u64 0, .bool false] 26)) = wz at *
  have fA := pt_f hA
  have fC := pt_f hC
  go_upto_region 5 with (fail)
  have lA := hA.lt
  have lC := hC.lt
  have sB : ∀ W, Below wz.heap.size wz W → (Below wz.heap.size wz W ∧ W.rangeAt w.heap.size 0 [.int .u64 (wd X1 0), .int .u64 (wd X1 1), .int .u64 (wd X1 2), .int .u64 (wd X1 3), .int .u64 (wd Y1 0), .int .u64 (wd Y1 1), .int .u64 (wd Y1 2), .int .u64 (wd Y1 3), .bool false] ∧ W.rangeAt (w.heap.size + 1) 0 [.int .u64 (wd X1 0), .int .u64 (wd X1 1), .int .u64 (wd X1 2), .int .u64 (wd X1 3), .int .u64 (wd Y1 0), .int .u64 (wd Y1 1), .int .u64 (wd Y1 2), .int .u64 (wd Y1 3), .bool false]) := fun W hb => ⟨hb, range_block (range_pt hA) (hb.block _ lA), range_block (range_pt hC) (hb.block _ lC)⟩
  have SB := veil sB
  clear sB
  refine wp_region_held_drew (S := fun W => (Below wz.heap.size wz W ∧ W.rangeAt w.heap.size 0 [.int .u64 (wd X1 0), .int .u64 (wd X1 1), .int .u64 (wd X1 2), .int .u64 (wd X1 3), .int .u64 (wd Y1 0), .int .u64 (wd Y1 1), .int .u64 (wd Y1 2), .int .u64 (wd Y1 3), .bool false] ∧ W.rangeAt (w.heap.size + 1) 0 [.int .u64 (wd X1 0), .int .u64 (wd X1 1), .int .u64 (wd X1 2), .int .u64 (wd X1 3), .int .u64 (wd Y1 0), .int .u64 (wd Y1 1), .int .u64 (wd Y1 2), .int .u64 (wd Y1 3), .bool false])) (by kernel_rfl) (SB.out _ (Below.refl _ wz).drew) (fun hH => ?_)
  repeat
    ((first
        | (refine wpAnyH_take (i := 0) (v := .agg #[.int .u64 (wd X1 0), .int .u64 (wd X1 1), .int .u64 (wd X1 2), .int .u64 (wd X1 3), .int .u64 (wd Y1 0), .int .u64 (wd Y1 1), .int .u64 (wd Y1 2), .int .u64 (wd Y1 3), .bool false]) rfl (by kernel_rfl) (by kernel_rfl) (by decide +kernel) (fun _ _ _ h => h) (yieldsIf_load_mid (by rfl) _ _ rfl _ _ rfl _ _ (fun W hSw => hSw.2.1) Try.underlying26 rfl info_pt) (by with_reducible assumption) ?_)
        | (refine wpAnyH_take (i := 1) (v := .agg #[.int .u64 (wd X1 0), .int .u64 (wd X1 1), .int .u64 (wd X1 2), .int .u64 (wd X1 3), .int .u64 (wd Y1 0), .int .u64 (wd Y1 1), .int .u64 (wd Y1 2), .int .u64 (wd Y1 3), .bool false]) rfl (by kernel_rfl) (by kernel_rfl) (by decide +kernel) (fun _ _ _ h => h) (yieldsIf_load_mid (by rfl) _ _ rfl _ _ rfl _ _ (fun W hSw => hSw.2.2) Try.underlying26 rfl info_pt) (by with_reducible assumption) ?_)
        | (refine wpAnyH_ready (rs := [2]) (by decide +kernel) (by simp) ?_; refine AllReadyH.cons rfl (fun K hK => ?_) AllReadyH.nil; go_simp; (with_reducible refine (HN.out _).mono ?_); rintro e w1 ⟨rfl, hb⟩; have hb1 := hH.1.trans (hb.mono hH.1.size); clear hb; refine hK.out _ _ (SB.out _ hb1) (fun hH => ?_); clear hK K)
        | (refine wpAnyH_take (i := 3) (v := .bool false) rfl (by kernel_rfl) (by kernel_rfl) (by decide +kernel) (fun _ _ _ h => h) (Or.inl ⟨by rfl, fun W hSw => (by dsimp only at hSw; go_simp)⟩) (by with_reducible assumption) ?_)
        | fail);
      try simp only [Act.put, List.setIfInBounds_toArray, List.set_cons_zero, List.set_cons_succ, List.getElem_toArray, List.getElem_cons_zero, List.getElem_cons_succ])
  refine wpAnyH_done (by decide +kernel) ?_ _
  clear hH fA fC kq HN SB lA lC
  have hb := hb1
  clear hb1
  replace hA := row_below hA hb hA.lt
  replace hC := row_below hC hb hC.lt
  replace hR := row_below hR hb hR.lt
  replace hB := hB.trans (hb.mono hB.size)
  clear hb
  obtain ⟨y0, y1, y2, y3'⟩ := pt_y hA
  obtain ⟨z0, z1, z2, z3⟩ := pt_y hC
  go_wp2_with fail
  refine (HS1.out _).mono ?_
  rintro e w7 ⟨rfl, hb⟩
  clear y0 y1 y2 y3' z0 z1 z2 z3
  replace hA := row_below hA hb hA.lt
  replace hC := row_below hC hb hC.lt
  replace hR := row_below hR hb hR.lt
  replace hB := hB.trans (hb.mono hB.size)
  clear hb
  go_upto_region 8 with (fail)
  have n5 := hR.lt
  replace hA := hA.alloc (.cells #[.int .u64 (wd (U0) 0), .int .u64 (wd (U0) 1), .int .u64 (wd (U0) 2), .int .u64 (wd (U0) 3)] 24)
  replace hC := hC.alloc (.cells #[.int .u64 (wd (U0) 0), .int .u64 (wd (U0) 1), .int .u64 (wd (U0) 2), .int .u64 (wd (U0) 3)] 24)
  replace hR := hR.alloc (.cells #[.int .u64 (wd (U0) 0), .int .u64 (wd (U0) 1), .int .u64 (wd (U0) 2), .int .u64 (wd (U0) 3)] 24)
  have hU : (w7.alloc (.cells #[.int .u64 (wd (U0) 0), .int .u64 (wd (U0) 1), .int .u64 (wd (U0) 2), .int .u64 (wd (U0) 3)] 24)).rowIs w7.heap.size 24 4 (fun j => .int .u64 (wd U0 j)) := row_new (n := 4) rfl rfl (arr4 fun j => .int .u64 (wd U0 j))
  replace hB := hB.alloc hB.size (.cells #[.int .u64 (wd (U0) 0), .int .u64 (wd (U0) 1), .int .u64 (wd (U0) 2), .int .u64 (wd (U0) 3)] 24)
  generalize w7.alloc (.cells #[.int .u64 (wd (U0) 0), .int .u64 (wd (U0) 1), .int .u64 (wd (U0) 2), .int .u64 (wd (U0) 3)] 24) = w8 at *
  generalize w7.heap.size = g5 at *
  obtain ⟨y0, y1, y2, y3'⟩ := pt_x hA
  obtain ⟨z0, z1, z2, z3⟩ := pt_x hC
  go_wp2_with fail
  refine (HS2.out _).mono ?_
  rintro e w9 ⟨rfl, hb⟩
  clear y0 y1 y2 y3' z0 z1 z2 z3
  replace hA := row_below hA hb hA.lt
  replace hC := row_below hC hb hC.lt
  replace hR := row_below hR hb hR.lt
  replace hU := row_below hU hb hU.lt
  replace hB := hB.trans (hb.mono hB.size)
  clear hb
  go_upto_region 9 with (fail)
  have n6 := hU.lt
  replace hA := hA.alloc (.cells #[.int .u64 (wd (D0) 0), .int .u64 (wd (D0) 1), .int .u64 (wd (D0) 2), .int .u64 (wd (D0) 3)] 24)
  replace hC := hC.alloc (.cells #[.int .u64 (wd (D0) 0), .int .u64 (wd (D0) 1), .int .u64 (wd (D0) 2), .int .u64 (wd (D0) 3)] 24)
  replace hR := hR.alloc (.cells #[.int .u64 (wd (D0) 0), .int .u64 (wd (D0) 1), .int .u64 (wd (D0) 2), .int .u64 (wd (D0) 3)] 24)
  replace hU := hU.alloc (.cells #[.int .u64 (wd (D0) 0), .int .u64 (wd (D0) 1), .int .u64 (wd (D0) 2), .int .u64 (wd (D0) 3)] 24)
  have hD : (w9.alloc (.cells #[.int .u64 (wd (D0) 0), .int .u64 (wd (D0) 1), .int .u64 (wd (D0) 2), .int .u64 (wd (D0) 3)] 24)).rowIs w9.heap.size 24 4 (fun j => .int .u64 (wd D0 j)) := row_new (n := 4) rfl rfl (arr4 fun j => .int .u64 (wd D0 j))
  replace hB := hB.alloc hB.size (.cells #[.int .u64 (wd (D0) 0), .int .u64 (wd (D0) 1), .int .u64 (wd (D0) 2), .int .u64 (wd (D0) 3)] 24)
  generalize w9.alloc (.cells #[.int .u64 (wd (D0) 0), .int .u64 (wd (D0) 1), .int .u64 (wd (D0) 2), .int .u64 (wd (D0) 3)] 24) = wa at *
  generalize w9.heap.size = g6 at *
  have HA := veil (blk9 hA)
  have HC := veil (blk9 hC)
  go_upto_region 10 with (first
    | ((with_reducible refine at_slot 32 ?_); refine wpList_load_row rfl 26 _ rfl w.heap.size rfl 26 #[.int .u64 (wd (X1) 0), .int .u64 (wd (X1) 1), .int .u64 (wd (X1) 2), .int .u64 (wd (X1) 3), .int .u64 (wd (Y1) 0), .int .u64 (wd (Y1) 1), .int .u64 (wd (Y1) 2), .int .u64 (wd (Y1) 3), .bool (false)] (0, 0) _ HA.out Try.underlying26 rfl info_pt ?_)
    | ((with_reducible refine at_slot 33 ?_); refine wpList_load_row rfl 26 _ rfl (w.heap.size + 1) rfl 26 #[.int .u64 (wd (X1) 0), .int .u64 (wd (X1) 1), .int .u64 (wd (X1) 2), .int .u64 (wd (X1) 3), .int .u64 (wd (Y1) 0), .int .u64 (wd (Y1) 1), .int .u64 (wd (Y1) 2), .int .u64 (wd (Y1) 3), .bool (false)] (0, 0) _ HC.out Try.underlying26 rfl info_pt ?_))
  clear HA HC ks HS1 HS2
  obtain ⟨x0, x1, x2, x3'⟩ := pt_x hA
  go_wp2_with fail
  refine (K1.out _).mono ?_
  rintro e wb ⟨rfl, hb⟩
  clear x0 x1 x2 x3'
  replace hA := row_below hA hb hA.lt
  replace hC := row_below hC hb hC.lt
  replace hR := row_below hR hb hR.lt
  replace hU := row_below hU hb hU.lt
  replace hD := row_below hD hb hD.lt
  replace hB := hB.trans (hb.mono hB.size)
  clear hb
  go_wp2_with fail
  refine (K2.out _).mono ?_
  rintro e wc ⟨rfl, hb⟩
  replace hA := row_below hA hb hA.lt
  replace hC := row_below hC hb hC.lt
  replace hR := row_below hR hb hR.lt
  replace hU := row_below hU hb hU.lt
  replace hD := row_below hD hb hD.lt
  replace hB := hB.trans (hb.mono hB.size)
  clear hb
  go_wp2_with fail
  refine (K3.out _).mono ?_
  rintro e wd' ⟨rfl, hb⟩
  replace hA := row_below hA hb hA.lt
  replace hC := row_below hC hb hC.lt
  replace hR := row_below hR hb hR.lt
  replace hU := row_below hU hb hU.lt
  replace hD := row_below hD hb hD.lt
  replace hB := hB.trans (hb.mono hB.size)
  clear hb
  obtain ⟨x0, x1, x2, x3'⟩ := row_c4 hU
  obtain ⟨f0, f1, f2, f3⟩ := row_f4 hU
  go_upto_region 11 with (fail)
  clear x0 x1 x2 x3' f0 f1 f2 f3
  replace hA := row_far4 hA (show w.heap.size ≠ g5 by omega) (.int .u64 (wd U 0)) (.int .u64 (wd U 1)) (.int .u64 (wd U 2)) (.int .u64 (wd U 3))
  replace hC := row_far4 hC (show w.heap.size + 1 ≠ g5 by omega) (.int .u64 (wd U 0)) (.int .u64 (wd U 1)) (.int .u64 (wd U 2)) (.int .u64 (wd U 3))
  replace hR := row_far4 hR (show w.heap.size + 1 + 1 ≠ g5 by omega) (.int .u64 (wd U 0)) (.int .u64 (wd U 1)) (.int .u64 (wd U 2)) (.int .u64 (wd U 3))
  replace hD := row_far4 hD (show g6 ≠ g5 by omega) (.int .u64 (wd U 0)) (.int .u64 (wd U 1)) (.int .u64 (wd U 2)) (.int .u64 (wd U 3))
  replace hU := put4 hU fun j => .int .u64 (wd U j)
  replace hB := below_put4 hB (show w.heap.size ≤ g5 by omega) (.int .u64 (wd U 0)) (.int .u64 (wd U 1)) (.int .u64 (wd U 2)) (.int .u64 (wd U 3))
  generalize ((((wd'.setCell ⟨g5, 0, none⟩ (.int .u64 (wd U 0))).setCell ⟨g5, 1, none⟩ (.int .u64 (wd U 1))).setCell ⟨g5, 2, none⟩ (.int .u64 (wd U 2))).setCell ⟨g5, 3, none⟩ (.int .u64 (wd U 3))) = w11 at *
  obtain ⟨y0, y1, y2, y3'⟩ := pt_y hA
  have m1 := hA.lt
  have sB : ∀ W, Bt g6 24 4 w11 W → (Bt g6 24 4 w11 W ∧ W.cell? ⟨w.heap.size, 4, none⟩ = some (.int .u64 (wd Y1 0)) ∧ W.cell? ⟨w.heap.size, 5, none⟩ = some (.int .u64 (wd Y1 1)) ∧ W.cell? ⟨w.heap.size, 6, none⟩ = some (.int .u64 (wd Y1 2)) ∧ W.cell? ⟨w.heap.size, 7, none⟩ = some (.int .u64 (wd Y1 3))) := fun W hB => ⟨hB, (hB.cell m1 (by omega)).trans y0, (hB.cell m1 (by omega)).trans y1, (hB.cell m1 (by omega)).trans y2, (hB.cell m1 (by omega)).trans y3'⟩
  have hS0 := sB w11 (.of hD (But.refl _ _))
  have SB := veil sB
  clear sB
  go_region_held3 (fun W => Bt g6 24 4 w11 W ∧ W.cell? ⟨w.heap.size, 4, none⟩ = some (.int .u64 (wd Y1 0)) ∧ W.cell? ⟨w.heap.size, 5, none⟩ = some (.int .u64 (wd Y1 1)) ∧ W.cell? ⟨w.heap.size, 6, none⟩ = some (.int .u64 (wd Y1 2)) ∧ W.cell? ⟨w.heap.size, 7, none⟩ = some (.int .u64 (wd Y1 3)))
    (first
      | with_reducible assumption
      | exact hS0
      | exact SB.out _ hS0.1.drew
      | exact SB.out _ ((((hbt2.set 0 _).set 1 _).set 2 _).set 3 _))
    (first
      | (go_at_call 15; (with_reducible refine (HP.out _).mono ?_); rintro e v1 ⟨rfl, hb1⟩; have hbt1 := hS0.1.drew.call hb1; have hS1 := SB.out _ hbt1)
      | (go_at_call 31; (with_reducible refine (K4.out _).mono ?_); rintro e v2 ⟨rfl, hb2⟩; have hbt2 := hbt1.call hb2; have hS2 := SB.out _ hbt2; have hz := row_below (row_below (row_drewN hD 1) hb1 hD.lt) hb2 (Nat.lt_of_lt_of_le hD.lt hb1.size); have HZ := veil hz; obtain ⟨z0, z1, z2, z3⟩ := row_c4 hz; obtain ⟨f0, f1, f2, f3⟩ := row_f4 hz; clear hz))
  have hb : Below w11.heap.size w11 v2 := ((Below.refl _ w11).drew.trans (hb1.mono (Nat.le_refl _))).trans (hb2.mono hb1.size)
  clear z0 z1 z2 z3 f0 f1 f2 f3 y0 y1 y2 y3' hS0 hS1 hS2 hb1 hb2 hbt1 hbt2 SB m1
  have n7 := hD.lt
  replace hA := row_below hA hb hA.lt
  replace hC := row_below hC hb hC.lt
  replace hR := row_below hR hb hR.lt
  replace hU := row_below hU hb hU.lt
  replace hB := hB.trans (hb.mono hB.size)
  clear hb
  clear hD
  have hD := HZ.out
  go_upto_region 12 with (fail)
  replace hA := row_far4 hA (show w.heap.size ≠ g6 by omega) (.int .u64 (wd Dn 0)) (.int .u64 (wd Dn 1)) (.int .u64 (wd Dn 2)) (.int .u64 (wd Dn 3))
  replace hC := row_far4 hC (show w.heap.size + 1 ≠ g6 by omega) (.int .u64 (wd Dn 0)) (.int .u64 (wd Dn 1)) (.int .u64 (wd Dn 2)) (.int .u64 (wd Dn 3))
  replace hR := row_far4 hR (show w.heap.size + 1 + 1 ≠ g6 by omega) (.int .u64 (wd Dn 0)) (.int .u64 (wd Dn 1)) (.int .u64 (wd Dn 2)) (.int .u64 (wd Dn 3))
  replace hU := row_far4 hU (show g5 ≠ g6 by omega) (.int .u64 (wd Dn 0)) (.int .u64 (wd Dn 1)) (.int .u64 (wd Dn 2)) (.int .u64 (wd Dn 3))
  replace hD := put4 hD fun j => .int .u64 (wd Dn j)
  replace hB := below_put4 hB (show w.heap.size ≤ g6 by omega) (.int .u64 (wd Dn 0)) (.int .u64 (wd Dn 1)) (.int .u64 (wd Dn 2)) (.int .u64 (wd Dn 3))
  generalize ((((v2.setCell ⟨g6, 0, none⟩ (.int .u64 (wd Dn 0))).setCell ⟨g6, 1, none⟩ (.int .u64 (wd Dn 1))).setCell ⟨g6, 2, none⟩ (.int .u64 (wd Dn 2))).setCell ⟨g6, 3, none⟩ (.int .u64 (wd Dn 3))) = wq at *
  clear K1 K2 K3 K4 HZ
  obtain ⟨d0, d1, d2, d3⟩ := row_c4 hD
  have m6 := hD.lt
  go_cut [7, 8] from 50 to 55 (fun v7 v8 wx => ∃ (T g : Nat) (b : Bool), v7 = .pointer (some ⟨g, 0, none⟩) ∧ v8 = .bool b ∧ T < Pt.pp ∧ (Nat.gcd Dn Pt.pp = 1 → Dn * T % Pt.pp = 1) ∧ wq.heap.size ≤ g ∧ wx.rowIs g 24 4 (fun j => .int .u64 (wd T j)) ∧ Below wq.heap.size wq wx)
  case first =>
    clear hA hC hR hU hD hB
    go_region_held3 (fun w' => (∀ b o, b < wq.heap.size → w'.cell? ⟨b, o, none⟩ = wq.cell? ⟨b, o, none⟩) ∧ Below wq.heap.size wq w')
      (first
        | (with_reducible assumption)
        | (with_reducible exact keep_drew _)
        | (with_reducible exact keep_fresh _)
        | (with_reducible exact keep_alloc _ (by assumption))
        | ((with_reducible refine keep_swap (by assumption) ?_); first | exact Nat.le_refl _ | exact hb1.size | exact (Nat.le_trans hb1.size hb2.size))
        | ((with_reducible refine keep_put4 ?_ (by assumption)); first | exact Nat.le_refl _ | exact hb1.size | exact (Nat.le_trans hb1.size hb2.size))
        | (with_reducible exact keep_old (by assumption) (by assumption))
        | (fail))
      (first
        | (go_at_call 15; ((with_reducible refine (HP.out _).mono ?_); rintro e v1 ⟨rfl, hb1⟩; obtain ⟨hc1, hf1, hl1⟩ := below_look hb1))
        | (go_at_call 39; ((with_reducible refine (HI.out _).mono ?_); rintro e v2 ⟨T, hT1, hT2, rfl, hb2⟩; have HT := veil (And.intro hT1 hT2); clear hT1 hT2; obtain ⟨hc2, hf2, hl2⟩ := below_look hb2)))
    all_goals rename (_ ∧ Below wq.heap.size wq _) => hH
    · go_wp2
      go_meet
      exact ⟨_, _, _, rfl, rfl, HT.out.1, HT.out.2, (Nat.le_trans hb1.size hb2.size), row_new (n := 4) rfl rfl (arr4 fun j => .int .u64 (wd T j)), hH.2⟩
    · go_wp2
      go_meet
      exact ⟨_, _, _, rfl, rfl, HT.out.1, HT.out.2, hb1.size, put4 (row_below (row_new (n := 4) (f := fun _ => .int .u64 0) rfl rfl (arr4 fun _ => .int .u64 0)) hb2 (by simp)) (fun j => .int .u64 (wd T j)), hH.2⟩
    · go_wp2
      go_meet
      exact ⟨_, _, _, rfl, rfl, HT.out.1, HT.out.2, Nat.le_refl _, put4 (row_below (row_below (row_new (n := 4) (f := fun _ => .int .u64 0) rfl rfl (arr4 fun _ => .int .u64 0)).drew hb1 (by simp)) hb2 (Nat.lt_of_lt_of_le (by simp) hb1.size)) (fun j => .int .u64 (wd T j)), hH.2⟩
  case rest =>
    obtain ⟨T, g7, bi, rfl, rfl, hT1, hT2, _, hT, hb⟩ := hcut
    clear d0 d1 d2 d3 m6 HP HI
    replace hA := row_below hA hb hA.lt
    replace hC := row_below hC hb hC.lt
    replace hR := row_below hR hb hR.lt
    replace hU := row_below hU hb hU.lt
    replace hB := hB.trans (hb.mono hB.size)
    clear hb
    clear hD
    obtain ⟨L, hL⟩ : ∃ L, L = U * T % Pt.pp := ⟨_, rfl⟩
    obtain ⟨Q, hQ⟩ : ∃ Q, Q = L * L % Pt.pp := ⟨_, rfl⟩
    obtain ⟨R1, hR1⟩ : ∃ R, R = (Q + Pt.pp - X1) % Pt.pp := ⟨_, rfl⟩
    obtain ⟨X3, hX3⟩ : ∃ R, R = (R1 + Pt.pp - X1) % Pt.pp := ⟨_, rfl⟩
    obtain ⟨E1, hE1⟩ : ∃ R, R = (X1 + Pt.pp - X3) % Pt.pp := ⟨_, rfl⟩
    obtain ⟨F1, hF1⟩ : ∃ R, R = L * E1 % Pt.pp := ⟨_, rfl⟩
    obtain ⟨Y3, hY3⟩ : ∃ R, R = (F1 + Pt.pp - Y1) % Pt.pp := ⟨_, rfl⟩
    have hx : x3 U T X1 X1 = X3 := by unfold x3; rw [← hL, ← hQ, ← hR1, ← hX3]
    have hy : y3 U T X1 Y1 X1 = Y3 := by unfold y3; rw [hx, ← hL, ← hE1, ← hF1, ← hY3]
    have hmod : ∀ a, a % Pt.pp < Pt.pp := fun a => Nat.mod_lt _ pp_pos
    have lt : T < top := Nat.lt_trans hT1 pp_top
    have lL : L < Pt.pp := by rw [hL]; exact hmod _
    have lQ : Q < Pt.pp := by rw [hQ]; exact hmod _
    have lR1 : R1 < Pt.pp := by rw [hR1]; exact hmod _
    have lX3 : X3 < Pt.pp := by rw [hX3]; exact hmod _
    have lE1 : E1 < Pt.pp := by rw [hE1]; exact hmod _
    have lF1 : F1 < Pt.pp := by rw [hF1]; exact hmod _
    have J1 := veil (show ∀ W, Calls Try.prog 30 #[.agg #[.int .u64 (wd (U) 0), .int .u64 (wd (U) 1), .int .u64 (wd (U) 2), .int .u64 (wd (U) 3)], .agg #[.int .u64 (wd (T) 0), .int .u64 (wd (T) 1), .int .u64 (wd (T) 2), .int .u64 (wd (T) 3)]] W fun e W' => e = .returned (.agg #[.int .u64 (wd (L) 0), .int .u64 (wd (L) 1), .int .u64 (wd (L) 2), .int .u64 (wd (L) 3)]) ∧ Below W.heap.size W W' from fun W => rmul_is U T L HLT.out.2.2.2.2 lt hL W)
    have J2 := veil (show ∀ W, Calls Try.prog 30 #[.agg #[.int .u64 (wd (L) 0), .int .u64 (wd (L) 1), .int .u64 (wd (L) 2), .int .u64 (wd (L) 3)], .agg #[.int .u64 (wd (L) 0), .int .u64 (wd (L) 1), .int .u64 (wd (L) 2), .int .u64 (wd (L) 3)]] W fun e W' => e = .returned (.agg #[.int .u64 (wd (Q) 0), .int .u64 (wd (Q) 1), .int .u64 (wd (Q) 2), .int .u64 (wd (Q) 3)]) ∧ Below W.heap.size W W' from fun W => rmul_is L L Q lL (Nat.lt_trans lL pp_top) hQ W)
    have J3 := veil (show ∀ W, Calls Try.prog 32 #[.agg #[.int .u64 (wd (Q) 0), .int .u64 (wd (Q) 1), .int .u64 (wd (Q) 2), .int .u64 (wd (Q) 3)], .agg #[.int .u64 (wd (X1) 0), .int .u64 (wd (X1) 1), .int .u64 (wd (X1) 2), .int .u64 (wd (X1) 3)]] W fun e W' => e = .returned (.agg #[.int .u64 (wd (R1) 0), .int .u64 (wd (R1) 1), .int .u64 (wd (R1) 2), .int .u64 (wd (R1) 3)]) ∧ Below W.heap.size W W' from fun W => rsub_is Q X1 R1 lQ HLT.out.1 hR1 W)
    have J4 := veil (show ∀ W, Calls Try.prog 32 #[.agg #[.int .u64 (wd (R1) 0), .int .u64 (wd (R1) 1), .int .u64 (wd (R1) 2), .int .u64 (wd (R1) 3)], .agg #[.int .u64 (wd (X1) 0), .int .u64 (wd (X1) 1), .int .u64 (wd (X1) 2), .int .u64 (wd (X1) 3)]] W fun e W' => e = .returned (.agg #[.int .u64 (wd (X3) 0), .int .u64 (wd (X3) 1), .int .u64 (wd (X3) 2), .int .u64 (wd (X3) 3)]) ∧ Below W.heap.size W W' from fun W => rsub_is R1 X1 X3 lR1 HLT.out.2.2.1 hX3 W)
    have J5 := veil (show ∀ W, Calls Try.prog 32 #[.agg #[.int .u64 (wd (X1) 0), .int .u64 (wd (X1) 1), .int .u64 (wd (X1) 2), .int .u64 (wd (X1) 3)], .agg #[.int .u64 (wd (X3) 0), .int .u64 (wd (X3) 1), .int .u64 (wd (X3) 2), .int .u64 (wd (X3) 3)]] W fun e W' => e = .returned (.agg #[.int .u64 (wd (E1) 0), .int .u64 (wd (E1) 1), .int .u64 (wd (E1) 2), .int .u64 (wd (E1) 3)]) ∧ Below W.heap.size W W' from fun W => rsub_is X1 X3 E1 HLT.out.1 lX3 hE1 W)
    have J6 := veil (show ∀ W, Calls Try.prog 30 #[.agg #[.int .u64 (wd (L) 0), .int .u64 (wd (L) 1), .int .u64 (wd (L) 2), .int .u64 (wd (L) 3)], .agg #[.int .u64 (wd (E1) 0), .int .u64 (wd (E1) 1), .int .u64 (wd (E1) 2), .int .u64 (wd (E1) 3)]] W fun e W' => e = .returned (.agg #[.int .u64 (wd (F1) 0), .int .u64 (wd (F1) 1), .int .u64 (wd (F1) 2), .int .u64 (wd (F1) 3)]) ∧ Below W.heap.size W W' from fun W => rmul_is L E1 F1 lL (Nat.lt_trans lE1 pp_top) hF1 W)
    have J7 := veil (show ∀ W, Calls Try.prog 32 #[.agg #[.int .u64 (wd (F1) 0), .int .u64 (wd (F1) 1), .int .u64 (wd (F1) 2), .int .u64 (wd (F1) 3)], .agg #[.int .u64 (wd (Y1) 0), .int .u64 (wd (Y1) 1), .int .u64 (wd (Y1) 2), .int .u64 (wd (Y1) 3)]] W fun e W' => e = .returned (.agg #[.int .u64 (wd (Y3) 0), .int .u64 (wd (Y3) 1), .int .u64 (wd (Y3) 2), .int .u64 (wd (Y3) 3)]) ∧ Below W.heap.size W W' from fun W => rsub_is F1 Y1 Y3 lF1 HLT.out.2.1 hY3 W)
    have HXY := veil (And.intro hx (And.intro hy (And.intro hT1 hT2)))
    clear hL hQ hR1 hX3 hE1 hF1 hY3 hx hy hmod lt lL lQ lR1 lX3 lE1 lF1 hT1 hT2
    obtain ⟨u0, u1, u2, u3⟩ := row_c4 hU
    obtain ⟨t0, t1, t2, t3⟩ := row_c4 hT
    go_wp2_with fail
    refine (J1.out _).mono ?_
    rintro e w13 ⟨rfl, hb⟩
    clear u0 u1 u2 u3 t0 t1 t2 t3 hU hT
    replace hA := row_below hA hb hA.lt
    replace hC := row_below hC hb hC.lt
    replace hR := row_below hR hb hR.lt
    replace hB := hB.trans (hb.mono hB.size)
    clear hb
    go_upto_region 14 with (fail)
    have n9 := hR.lt
    replace hA := hA.alloc (.cells #[.int .u64 (wd (L) 0), .int .u64 (wd (L) 1), .int .u64 (wd (L) 2), .int .u64 (wd (L) 3)] 24)
    replace hC := hC.alloc (.cells #[.int .u64 (wd (L) 0), .int .u64 (wd (L) 1), .int .u64 (wd (L) 2), .int .u64 (wd (L) 3)] 24)
    replace hR := hR.alloc (.cells #[.int .u64 (wd (L) 0), .int .u64 (wd (L) 1), .int .u64 (wd (L) 2), .int .u64 (wd (L) 3)] 24)
    have hL : (w13.alloc (.cells #[.int .u64 (wd (L) 0), .int .u64 (wd (L) 1), .int .u64 (wd (L) 2), .int .u64 (wd (L) 3)] 24)).rowIs w13.heap.size 24 4 (fun j => .int .u64 (wd L j)) := row_new (n := 4) rfl rfl (arr4 fun j => .int .u64 (wd L j))
    replace hB := hB.alloc hB.size (.cells #[.int .u64 (wd (L) 0), .int .u64 (wd (L) 1), .int .u64 (wd (L) 2), .int .u64 (wd (L) 3)] 24)
    generalize w13.alloc (.cells #[.int .u64 (wd (L) 0), .int .u64 (wd (L) 1), .int .u64 (wd (L) 2), .int .u64 (wd (L) 3)] 24) = w14 at *
    generalize w13.heap.size = g9 at *
    obtain ⟨l0, l1, l2, l3⟩ := row_c4 hL
    obtain ⟨x0, x1, x2, x3'⟩ := pt_x hA
    obtain ⟨c0, c1, c2, c3⟩ := pt_x hC
    have m1 := hA.lt
    have m2 := hC.lt
    have m3 := hL.lt
    go_cut [10] from 59 to 67 (fun v10 wx => ∃ g : Nat, v10 = .pointer (some ⟨g, 0, none⟩) ∧ w14.heap.size ≤ g ∧ wx.rowIs g 24 4 (fun j => .int .u64 (wd X3 j)) ∧ Below w14.heap.size w14 wx)
    case first =>
      clear hA hC hR hL hB
      go_region_held3 (fun w' => (∀ b o, b < w14.heap.size → w'.cell? ⟨b, o, none⟩ = w14.cell? ⟨b, o, none⟩) ∧ Below w14.heap.size w14 w')
        (first
          | (with_reducible assumption)
          | (with_reducible exact keep_drew _)
          | (with_reducible exact keep_fresh _)
          | (with_reducible exact keep_alloc _ (by assumption))
          | ((with_reducible refine keep_swap (by assumption) ?_); first | exact Nat.le_refl _ | exact hb1.size | exact (Nat.le_trans hb1.size hb2.size) | exact (Nat.le_trans (Nat.le_trans hb1.size hb2.size) hb3.size))
          | ((with_reducible refine keep_put4 ?_ (by assumption)); first | exact Nat.le_refl _ | exact hb1.size | exact (Nat.le_trans hb1.size hb2.size) | exact (Nat.le_trans (Nat.le_trans hb1.size hb2.size) hb3.size))
          | (with_reducible exact keep_old (by assumption) (by assumption))
          | (fail))
        (first
          | (go_at_call 30; ((with_reducible refine (J2.out _).mono ?_); rintro e v1 ⟨rfl, hb1⟩; obtain ⟨hc1, hf1, hl1⟩ := below_look hb1))
          | (go_at_call 32; first | ((with_reducible refine (J3.out _).mono ?_); rintro e v2 ⟨rfl, hb2⟩; obtain ⟨hc2, hf2, hl2⟩ := below_look hb2; try have hl2' := fun b h => hl2 b (hl1 b h)) | ((with_reducible refine (J4.out _).mono ?_); rintro e v3 ⟨rfl, hb3⟩; obtain ⟨hc3, hf3, hl3⟩ := below_look hb3)))
      all_goals rename (_ ∧ Below w14.heap.size w14 _) => hH
      · go_wp2
        go_meet
        exact ⟨_, rfl, (Nat.le_trans (Nat.le_trans hb1.size hb2.size) hb3.size), row_new (n := 4) rfl rfl (arr4 fun j => .int .u64 (wd X3 j)), hH.2⟩
      · go_wp2
        go_meet
        exact ⟨_, rfl, (Nat.le_trans hb1.size hb2.size), put4 (row_below (row_new (n := 4) (f := fun _ => .int .u64 0) rfl rfl (arr4 fun _ => .int .u64 0)) hb3 (by simp)) (fun j => .int .u64 (wd X3 j)), hH.2⟩
      · go_wp2
        go_meet
        exact ⟨_, rfl, hb1.size, put4 (row_below (row_below (row_new (n := 4) (f := fun _ => .int .u64 0) rfl rfl (arr4 fun _ => .int .u64 0)) hb2 (by simp)) hb3 (Nat.lt_of_lt_of_le (by simp) hb2.size)) (fun j => .int .u64 (wd X3 j)), hH.2⟩
      · go_wp2
        go_meet
        exact ⟨_, rfl, Nat.le_refl _, put4 (row_below (row_below (row_below (row_new (n := 4) (f := fun _ => .int .u64 0) rfl rfl (arr4 fun _ => .int .u64 0)).drew hb1 (by simp)) hb2 (Nat.lt_of_lt_of_le (by simp) hb1.size)) hb3 (Nat.lt_of_lt_of_le (Nat.lt_of_lt_of_le (by simp) hb1.size) hb2.size)) (fun j => .int .u64 (wd X3 j)), hH.2⟩
    case rest =>
      obtain ⟨g10, rfl, n10, hX, hb⟩ := hcut
      clear l0 l1 l2 l3 x0 x1 x2 x3' c0 c1 c2 c3 m1 m2 m3
      have nR := hR.lt
      replace hA := row_below hA hb hA.lt
      replace hL := row_below hL hb hL.lt
      replace hR := row_below hR hb hR.lt
      replace hB := hB.trans (hb.mono hB.size)
      clear hb
      clear hC
      go_upto_region 15 with (fail)
      obtain ⟨l0, l1, l2, l3⟩ := row_c4 hL
      obtain ⟨x0, x1, x2, x3'⟩ := pt_x hA
      obtain ⟨y0, y1, y2, y3'⟩ := pt_y hA
      obtain ⟨k0, k1, k2, k3⟩ := row_c4 hX
      have m1 := hA.lt
      have m2 := hL.lt
      have m3 := hX.lt
      have sB : ∀ W, Bt (w.heap.size + 1 + 1) 26 9 wc W → (Bt (w.heap.size + 1 + 1) 26 9 wc W ∧ W.cell? ⟨g10, 0, none⟩ = some (.int .u64 (wd X3 0)) ∧ W.cell? ⟨g10, 1, none⟩ = some (.int .u64 (wd X3 1)) ∧ W.cell? ⟨g10, 2, none⟩ = some (.int .u64 (wd X3 2)) ∧ W.cell? ⟨g10, 3, none⟩ = some (.int .u64 (wd X3 3)) ∧ W.cell? ⟨g9, 0, none⟩ = some (.int .u64 (wd L 0)) ∧ W.cell? ⟨g9, 1, none⟩ = some (.int .u64 (wd L 1)) ∧ W.cell? ⟨g9, 2, none⟩ = some (.int .u64 (wd L 2)) ∧ W.cell? ⟨g9, 3, none⟩ = some (.int .u64 (wd L 3)) ∧ W.cell? ⟨w.heap.size, 0, none⟩ = some (.int .u64 (wd X1 0)) ∧ W.cell? ⟨w.heap.size, 1, none⟩ = some (.int .u64 (wd X1 1)) ∧ W.cell? ⟨w.heap.size, 2, none⟩ = some (.int .u64 (wd X1 2)) ∧ W.cell? ⟨w.heap.size, 3, none⟩ = some (.int .u64 (wd X1 3)) ∧ W.cell? ⟨w.heap.size, 4, none⟩ = some (.int .u64 (wd Y1 0)) ∧ W.cell? ⟨w.heap.size, 5, none⟩ = some (.int .u64 (wd Y1 1)) ∧ W.cell? ⟨w.heap.size, 6, none⟩ = some (.int .u64 (wd Y1 2)) ∧ W.cell? ⟨w.heap.size, 7, none⟩ = some (.int .u64 (wd Y1 3))) := fun W hB => ⟨hB, (hB.cell m3 (by omega)).trans k0, (hB.cell m3 (by omega)).trans k1, (hB.cell m3 (by omega)).trans k2, (hB.cell m3 (by omega)).trans k3, (hB.cell m2 (by omega)).trans l0, (hB.cell m2 (by omega)).trans l1, (hB.cell m2 (by omega)).trans l2, (hB.cell m2 (by omega)).trans l3, (hB.cell m1 (by omega)).trans x0, (hB.cell m1 (by omega)).trans x1, (hB.cell m1 (by omega)).trans x2, (hB.cell m1 (by omega)).trans x3', (hB.cell m1 (by omega)).trans y0, (hB.cell m1 (by omega)).trans y1, (hB.cell m1 (by omega)).trans y2, (hB.cell m1 (by omega)).trans y3'⟩
      have hS0 := sB wc (.of hR (But.refl _ _))
      have SB := veil sB
      have HBB := veil hB
      clear sB hB hA hL hX hR
      refine wp_region_held_drew (S := fun W => Bt (w.heap.size + 1 + 1) 26 9 wc W ∧ W.cell? ⟨g10, 0, none⟩ = some (.int .u64 (wd X3 0)) ∧ W.cell? ⟨g10, 1, none⟩ = some (.int .u64 (wd X3 1)) ∧ W.cell? ⟨g10, 2, none⟩ = some (.int .u64 (wd X3 2)) ∧ W.cell? ⟨g10, 3, none⟩ = some (.int .u64 (wd X3 3)) ∧ W.cell? ⟨g9, 0, none⟩ = some (.int .u64 (wd L 0)) ∧ W.cell? ⟨g9, 1, none⟩ = some (.int .u64 (wd L 1)) ∧ W.cell? ⟨g9, 2, none⟩ = some (.int .u64 (wd L 2)) ∧ W.cell? ⟨g9, 3, none⟩ = some (.int .u64 (wd L 3)) ∧ W.cell? ⟨w.heap.size, 0, none⟩ = some (.int .u64 (wd X1 0)) ∧ W.cell? ⟨w.heap.size, 1, none⟩ = some (.int .u64 (wd X1 1)) ∧ W.cell? ⟨w.heap.size, 2, none⟩ = some (.int .u64 (wd X1 2)) ∧ W.cell? ⟨w.heap.size, 3, none⟩ = some (.int .u64 (wd X1 3)) ∧ W.cell? ⟨w.heap.size, 4, none⟩ = some (.int .u64 (wd Y1 0)) ∧ W.cell? ⟨w.heap.size, 5, none⟩ = some (.int .u64 (wd Y1 1)) ∧ W.cell? ⟨w.heap.size, 6, none⟩ = some (.int .u64 (wd Y1 2)) ∧ W.cell? ⟨w.heap.size, 7, none⟩ = some (.int .u64 (wd Y1 3))) (by kernel_rfl) (SB.out _ hS0.1.drew) (fun hH => ?_)
      repeat
        ((first
            | (refine wpAnyH_take (i := 0) (v := .agg #[.int .u64 (wd (X3) 0), .int .u64 (wd (X3) 1), .int .u64 (wd (X3) 2), .int .u64 (wd (X3) 3)]) rfl (by kernel_rfl) (by kernel_rfl) (by decide +kernel) (fun _ _ _ h => h) (Or.inl ⟨by rfl, fun W hSw => (by dsimp only at hSw; go_simp)⟩) (by with_reducible assumption) ?_)
            | (refine wpAnyH_take (i := 1) (v := .agg #[.int .u64 (wd (L) 0), .int .u64 (wd (L) 1), .int .u64 (wd (L) 2), .int .u64 (wd (L) 3)]) rfl (by kernel_rfl) (by kernel_rfl) (by decide +kernel) (fun _ _ _ h => h) (Or.inl ⟨by rfl, fun W hSw => (by dsimp only at hSw; go_simp)⟩) (by with_reducible assumption) ?_)
            | (refine wpAnyH_take (i := 2) (v := .pointer (some ⟨w.heap.size, 0, none⟩)) rfl (by kernel_rfl) (by kernel_rfl) (by decide +kernel) (fun _ _ _ h => h) (Or.inl ⟨by rfl, fun W hSw => (by dsimp only at hSw; go_simp)⟩) (by with_reducible assumption) ?_)
            | (refine wpAnyH_take (i := 3) (v := .agg #[.int .u64 (wd (X1) 0), .int .u64 (wd (X1) 1), .int .u64 (wd (X1) 2), .int .u64 (wd (X1) 3)]) rfl (by kernel_rfl) (by kernel_rfl) (by decide +kernel) (fun _ _ _ h => h) (Or.inl ⟨by rfl, fun W hSw => (by dsimp only at hSw; go_simp)⟩) (by with_reducible assumption) ?_)
            | (refine wpAnyH_take (i := 4) (v := .agg #[.int .u64 (wd (X3) 0), .int .u64 (wd (X3) 1), .int .u64 (wd (X3) 2), .int .u64 (wd (X3) 3)]) rfl (by kernel_rfl) (by kernel_rfl) (by decide +kernel) (fun _ _ _ h => h) (Or.inl ⟨by rfl, fun W hSw => (by dsimp only at hSw; go_simp)⟩) (by with_reducible assumption) ?_)
            | (refine wpAnyH_ready (rs := [5]) (by decide +kernel) (by simp) ?_; refine AllReadyH.cons rfl (fun K hK => ?_) AllReadyH.nil; go_simp; (with_reducible refine (J5.out _).mono ?_); rintro e w15 ⟨rfl, hb⟩; have hb1 := hS0.1.drew.call hb; clear hb; refine hK.out _ _ (SB.out _ hb1) (fun hH => ?_); clear hK K)
            | (refine wpAnyH_ready (rs := [6]) (by decide +kernel) (by simp) ?_; refine AllReadyH.cons rfl (fun K hK => ?_) AllReadyH.nil; go_simp; (with_reducible refine (J6.out _).mono ?_); rintro e w16 ⟨rfl, hb⟩; have hb2 := hb1.call hb; clear hb; refine hK.out _ _ (SB.out _ hb2) (fun hH => ?_); clear hK K)
            | (refine wpAnyH_take (i := 7) (v := .pointer (some ⟨w.heap.size, 4, none⟩)) rfl (by kernel_rfl) (by kernel_rfl) (by decide +kernel) (fun _ _ _ h => h) (Or.inl ⟨by rfl, fun W hSw => (by dsimp only at hSw; go_simp)⟩) (by with_reducible assumption) ?_)
            | (refine wpAnyH_take (i := 8) (v := .agg #[.int .u64 (wd (Y1) 0), .int .u64 (wd (Y1) 1), .int .u64 (wd (Y1) 2), .int .u64 (wd (Y1) 3)]) rfl (by kernel_rfl) (by kernel_rfl) (by decide +kernel) (fun _ _ _ h => h) (Or.inl ⟨by rfl, fun W hSw => (by dsimp only at hSw; go_simp)⟩) (by with_reducible assumption) ?_)
            | (refine wpAnyH_ready (rs := [9]) (by decide +kernel) (by simp) ?_; refine AllReadyH.cons rfl (fun K hK => ?_) AllReadyH.nil; go_simp; (with_reducible refine (J7.out _).mono ?_); rintro e w17 ⟨rfl, hb⟩; have hb3 := hb2.call hb; clear hb; obtain ⟨fz, hz⟩ := hb3.2; have HZ := veil (blkOf hz); clear hz; refine hK.out _ _ (SB.out _ hb3) (fun hH => ?_); clear hK K)
            | (refine wpAnyH_take (i := 10) (v := .agg #[.int .u64 (wd (X3) 0), .int .u64 (wd (X3) 1), .int .u64 (wd (X3) 2), .int .u64 (wd (X3) 3), .int .u64 (wd (Y3) 0), .int .u64 (wd (Y3) 1), .int .u64 (wd (Y3) 2), .int .u64 (wd (Y3) 3), .bool (false)]) rfl (by kernel_rfl) (by kernel_rfl) (by decide +kernel) (fun _ _ _ h => h) (Or.inl ⟨by rfl, fun W hSw => (by dsimp only at hSw; go_simp)⟩) (by with_reducible assumption) ?_)
            | (refine wpAnyH_ready (rs := [11]) (by decide +kernel) (by simp) ?_; refine AllReadyH.cons rfl (fun K hK => ?_) AllReadyH.nil; refine step_store_row rfl 26 _ _ rfl (w.heap.size + 1 + 1) #[.int .u64 (wd (X3) 0), .int .u64 (wd (X3) 1), .int .u64 (wd (X3) 2), .int .u64 (wd (X3) 3), .int .u64 (wd (Y3) 0), .int .u64 (wd (Y3) 1), .int .u64 (wd (Y3) 2), .int .u64 (wd (Y3) 3), .bool (false)] rfl rfl 26 _ HZ.out info_pt (by rw [arrOf_size]; rfl) (one9 X3 Y3 false) ?_; refine hK.out _ _ (SB.out _ (hb3.setRow rfl)) (fun hH => ?_); clear hK K)
            | fail);
          try simp only [Act.put, List.setIfInBounds_toArray, List.set_cons_zero, List.set_cons_succ, List.getElem_toArray, List.getElem_cons_zero, List.getElem_cons_succ])
      refine wpAnyH_done (by decide +kernel) ?_ _
      have HFIN := veil (setRow_heap _ (w.heap.size + 1 + 1) _ #[.int .u64 (wd (X3) 0), .int .u64 (wd (X3) 1), .int .u64 (wd (X3) 2), .int .u64 (wd (X3) 3), .int .u64 (wd (Y3) 0), .int .u64 (wd (Y3) 1), .int .u64 (wd (Y3) 2), .int .u64 (wd (Y3) 3), .bool (false)] 26 (0, 0) HZ.out)
      clear hH
      go_wp2
      exact bodyPost_ret (results_cell_row rfl _ _ (w.heap.size + 1 + 1) 26 #[.int .u64 (wd (X3) 0), .int .u64 (wd (X3) 1), .int .u64 (wd (X3) 2), .int .u64 (wd (X3) 3), .int .u64 (wd (Y3) 0), .int .u64 (wd (Y3) 1), .int .u64 (wd (Y3) 2), .int .u64 (wd (Y3) 3), .bool (false)] (0, 0) _ rfl HFIN.out Try.underlying26 rfl info_pt) rfl ⟨T, HXY.out.2.2.1, HXY.out.2.2.2, by rw [HXY.out.1, HXY.out.2.1], HBB.out.trans ((hb3.setRow (cs := #[.int .u64 (wd (X3) 0), .int .u64 (wd (X3) 1), .int .u64 (wd (X3) 2), .int .u64 (wd (X3) 3), .int .u64 (wd (Y3) 0), .int .u64 (wd (Y3) 1), .int .u64 (wd (Y3) 2), .int .u64 (wd (Y3) 3), .bool (false)]) rfl).below (by omega) HBB.out.size)⟩
end Go.Proofs.Ytppfcdpokgnpfaa
