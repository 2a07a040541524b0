/-
  Merged: E2 E3 E4 E5.
-/
import Derived.Lib.AppendZeros
import Derived.Laws.BytesString
import Derived.Test.YtppfcdpokgnpfaaZ8
import Derived.Test.YtppfcdpokgnpfaaZ1
import Derived.Test.YtppfcdpokgnpfaaY12

/-
  slices.Concat of two slices of 32 bytes; slices.Grow of nil.
-/
namespace Go.Proofs.Ytppfcdpokgnpfaa
open Go.RowKit

set_option maxRecDepth 100000 in
set_option maxHeartbeats 2000000 in
theorem grow_calls (n : Nat) (h0 : 0 < n) (h1 : n ≤ 1048576) (w : World) :
    Calls Try.prog 69 #[.slice none 0 0, .int .i64 (n : Int)] w fun e w' => (∃ v, e = .returned v ∧ ∀ f, Own w' w.heap.size 5 v 0 f) ∧ Ext w w' := by
  obtain ⟨i8, hi8, hz0, hz1, hz2⟩ := info_parts infoByte
  have hr := fun W => Lib.run_append_nil_zeros (P := Try.prog) W 43 3 43 5 i8 (.int .u8 0) .i64 .i64 Try.underlying43 Try.underlying3 hi8 hz0 n h0 (by rw [hz1]; decide) (by omega) (by rw [hz2]; omega)
  have HR := veil hr
  have hg := grownCap_ge w n 0 5
  have hm := grownCap_le_maxLen w n 0 5 (by unfold maxLen; omega)
  have HG := veil (And.intro hg hm)
  have hi0 : (0 : Int) ≤ (n : Int) := by omega
  have hi1 : (0 : Int) < (n : Int) := by omega
  have hc0 : (0 : Int) ≤ (grownCap w n 0 5 : Int) := by omega
  clear hr hg hi8 hz0 hz1 hz2
  go_enter Try.func69, Try.ntmps69
  go_wp2_with (at_builtin; refine Lib.wpList_append_run _ rfl _ _ _ _ rfl _ _ rfl rfl _ _ (HR.out w) ?_)
  go_ret
  refine ⟨⟨_, rfl, fun f => ⟨by simp, .inr ⟨w.heap.size, _, _, rfl, Nat.le_refl _, heap_new w.drew _, Nat.zero_le _, HG.out.2, ?_, by simp⟩⟩⟩, (Ext.drew w).trans (Ext.alloc _ _)⟩
  have := HG.out.1
  simp [size_zeroCells]
  omega

/-- Both, one behind the other. -/
def catF (f1 f2 : Nat → Value) : Nat → Value := fun j => if j < 32 then f1 j else f2 (j - 32)
set_option maxRecDepth 100000 in
set_option maxHeartbeats 4000000 in
theorem concat_calls (h g1 g2 c1 c2 : Nat) (f1 f2 : Nat → Value) (o1 : ∀ j, (f1 j).oneCell' = true) (o2 : ∀ j, (f2 j).oneCell' = true) (w : World)
    (hb : w.heap[h]? = some (.cells #[.slice (some ⟨g1, 0, none⟩) 32 c1, .slice (some ⟨g2, 0, none⟩) 32 c2] 43 (0, 0))) (hg1 : w.rowIs g1 5 32 f1) (hg2 : w.rowIs g2 5 32 f2) :
    Calls Try.prog 45 #[.slice (some ⟨h, 0, none⟩) 2 2] w fun e w' => (∃ v, e = .returned v ∧ Own w' w.heap.size 5 v 64 (catF f1 f2)) ∧ Ext w w' := by
  obtain ⟨i8, hi8, hz0, hz1, hz2⟩ := info_parts infoByte
  have HI := veil (And.intro hi8 (And.intro hz0 (And.intro hz1 hz2)))
  clear hi8 hz0 hz1 hz2
  have c0 : w.cell? ⟨h, 0, none⟩ = some (.slice (some ⟨g1, 0, none⟩) 32 c1) := cell_of_row w h 0 _ _ _ hb
  have c1' : w.cell? ⟨h, 1, none⟩ = some (.slice (some ⟨g2, 0, none⟩) 32 c2) := cell_of_row w h 1 _ _ _ hb
  have HB := veil hb
  have HG1 := veil hg1
  have HG2 := veil hg2
  clear hb hg1 hg2
  go_enter Try.func45, Try.ntmps45
  go_wp2
  go_loop [3, 11] (fun v3 v11 => ∃ k : Nat, k ≤ 2 ∧ v11 = .int .i64 (k : Int) ∧ v3 = .int .i64 ((32 * k : Nat) : Int)) (fun _ v11 => (2 - intOf v11).toNat)
  case atStart => exact ⟨0, by omega, rfl, rfl⟩
  case round =>
    obtain ⟨k, hk, rfl, rfl⟩ := hrel
    have hk3 : k = 0 ∨ k = 1 ∨ k = 2 := by omega
    rcases hk3 with rfl | rfl | rfl
    · go_wp2
      go_round
      case rel => exact ⟨1, by omega, by go_num, by go_num⟩
      case measure => simp [intOf]
    · go_wp2
      go_round
      case rel => exact ⟨2, by omega, by go_num, by go_num⟩
      case measure => simp [intOf]
    · have hgr := fun W => grow_calls 64 (by decide) (by decide) W
      have HGR := veil hgr
      clear hgr
      go_wp2_with fail
      refine (HGR.out _).mono ?_
      rintro e w1 ⟨⟨v, rfl, hown⟩, hE⟩
      have hown := hown (catF f1 f2)
      have hx : Ext w w1 := hE
      clear hE
      clear c0 c1'
      go_wp2
      go_loopw [6, 27] (fun v6 v27 wr => ∃ k : Nat, k ≤ 2 ∧ v27 = .int .i64 (k : Int) ∧ Own wr w.heap.size 5 v6 (32 * k) (catF f1 f2) ∧ Ext w wr) (fun _ v27 _ => (2 - intOf v27).toNat)
      case atStart => exact ⟨0, by omega, rfl, hown, hx⟩
      case round =>
        clear hown hx
        obtain ⟨k, hk, rfl, hown, hx⟩ := hrel
        have b0 := hx.block HB.out
        have r1 := Ext.row HG1.out hx
        have r2 := Ext.row HG2.out hx
        have hk3 : k = 0 ∨ k = 1 ∨ k = 2 := by omega
        rcases hk3 with rfl | rfl | rfl
        · have c0 : wr.cell? ⟨h, 0, none⟩ = some (.slice (some ⟨g1, 0, none⟩) 32 c1) := cell_of_row wr h 0 _ _ _ b0
          have hfr : From wr (some ⟨g1, 0, none⟩) 32 f1 := .inr ⟨_, rfl, fun j hj => by rw [Addr.add_mid, Nat.zero_add]; exact r1.cell hj⟩
          have HF := veil hfr
          have HO := veil hown
          clear hfr hown b0
          go_wp2_with (at_builtin; refine wpList_append_from _ rfl _ _ _ rfl w.heap.size 5 i8 (.int .u8 0) 1 Try.underlying43 HI.out.1 HI.out.2.1 HI.out.2.2.1 HI.out.2.2.2 rfl _ _ _ rfl HO.out (some ⟨g1, 0, none⟩) 32 c1 rfl f1 HF.out o1 (by unfold maxLen; omega) (by omega) (Below.size hx) ?_)
          intro v' w' hown' hgr hkey
          go_wp2
          go_roundw
          case rel => exact ⟨1, by omega, by go_num, hown'.congr (fun j hj => by have h3 : j < 32 := by omega
                                                                                 simp [catF, h3]), grown_below hx hgr (Below.size hx) (fun k hk => (HO.out.lt hk).1)⟩
          case measure => simp [intOf]
        · have c0 : wr.cell? ⟨h, 1, none⟩ = some (.slice (some ⟨g2, 0, none⟩) 32 c2) := cell_of_row wr h 1 _ _ _ b0
          have hfr : From wr (some ⟨g2, 0, none⟩) 32 f2 := .inr ⟨_, rfl, fun j hj => by rw [Addr.add_mid, Nat.zero_add]; exact r2.cell hj⟩
          have HF := veil hfr
          have HO := veil hown
          clear hfr hown b0
          go_wp2_with (at_builtin; refine wpList_append_from _ rfl _ _ _ rfl w.heap.size 5 i8 (.int .u8 0) 1 Try.underlying43 HI.out.1 HI.out.2.1 HI.out.2.2.1 HI.out.2.2.2 rfl _ _ _ rfl HO.out (some ⟨g2, 0, none⟩) 32 c2 rfl f2 HF.out o2 (by unfold maxLen; omega) (by omega) (Below.size hx) ?_)
          intro v' w' hown' hgr hkey
          go_wp2
          go_roundw
          case rel => exact ⟨2, by omega, by go_num, hown'.congr (fun j hj => by simp only [catF]; by_cases h3 : j < 32
                                                                                 · simp [h3]
                                                                                 · simp [h3]), grown_below hx hgr (Below.size hx) (fun k hk => (HO.out.lt hk).1)⟩
          case measure => simp [intOf]
        · go_wp2
          go_ret
          exact ⟨⟨_, rfl, hown⟩, hx⟩
end Go.Proofs.Ytppfcdpokgnpfaa


/-
  point.Bytes: a point's 64 bytes.
-/
namespace Go.Proofs.Ytppfcdpokgnpfaa
open Go.RowKit

theorem bsv_one (X : Nat) : ∀ j, (bsv X j).oneCell' = true := fun j => by simp [bsv, Value.oneCell']
theorem catF_pt (X Y : Nat) : catF (bsv X) (bsv Y) = ptB X Y := rfl

set_option maxRecDepth 100000 in
set_option maxHeartbeats 4000000 in
theorem bytes_yes (q : Pt.Q) (hf : Pt.pFar q.1 = false) (w : World) :
    Calls Try.prog 24 #[qvP q.1] w fun e w' => (∃ v, e = .returned (.tuple #[v, .nilIface]) ∧ Own w' w.heap.size 5 v 64 (ptB (Pt.pX q.1) (Pt.pY q.1))) ∧ Ext w w' := by
  have KO := veil (pOn_yes q)
  have kb := fun X W => bytes_calls X W
  have KB := veil kb
  clear kb
  unfold qvP at KO ⊢
  rw [hf] at KO ⊢
  clear hf
  generalize Pt.pX q.1 = X at KO ⊢
  generalize Pt.pY q.1 = Y at KO ⊢
  unfold qv qc
  go_enter Try.func24, Try.ntmps24
  go_upto_region 1 with (fail)
  obtain ⟨hx, b0⟩ := blocks1 w (.cells #[.int .u64 (wd (X) 0), .int .u64 (wd (X) 1), .int .u64 (wd (X) 2), .int .u64 (wd (X) 3), .int .u64 (wd (Y) 0), .int .u64 (wd (Y) 1), .int .u64 (wd (Y) 2), .int .u64 (wd (Y) 3), .bool (false)] 26)
  generalize w.alloc (.cells #[.int .u64 (wd (X) 0), .int .u64 (wd (X) 1), .int .u64 (wd (X) 2), .int .u64 (wd (X) 3), .int .u64 (wd (Y) 0), .int .u64 (wd (Y) 1), .int .u64 (wd (Y) 2), .int .u64 (wd (Y) 3), .bool (false)] 26) = w1 at *
  have b0 : w1.heap[w.heap.size]? = some (.cells (qc X Y false) 26 (0, 0)) := b0
  refine' wp_plainG (m := 7) (A := _) ?h1 ?h2
  case h1 =>
    refine mk_step (.pointer (some ⟨w.heap.size, 8, none⟩)) rfl (made_field rfl rfl (fldT2 _ ·)) ?_
    simp only [Act.put, List.setIfInBounds_toArray, List.set_cons_zero, List.set_cons_succ]
    refine mk_step (.bool false) rfl (made_load1 rfl rfl b0 rfl (isn_bool ·)) ?_
    simp only [Act.put, List.setIfInBounds_toArray, List.set_cons_zero, List.set_cons_succ]
    refine mk_step (.bool false) rfl (made_move (.inl rfl) rfl) ?_
    simp only [Act.put, List.setIfInBounds_toArray, List.set_cons_zero, List.set_cons_succ]
    refine mk_want (qv X Y false) rfl (made_load rfl rfl b0 rfl Try.underlying26 rfl (iT _ _ _)) ?_
    simp only [Act.put, List.setIfInBounds_toArray, List.set_cons_zero, List.set_cons_succ]
    refine mk_want (.bool true) rfl (made_fun (args := [qv X Y false]) rfl rfl (fun W => run_callFunc_in Try.func13 rfl rfl _ W) (fun W hW => KO.out W)) ?_
    simp only [Act.put, List.setIfInBounds_toArray, List.set_cons_zero, List.set_cons_succ]
    refine mk_want (.bool false) rfl (made_not' rfl rfl rfl) ?_
    simp only [Act.put, List.setIfInBounds_toArray, List.set_cons_zero, List.set_cons_succ]
    refine mk_step (.bool false) rfl (made_pick rfl rfl rfl) ?_
    simp only [Act.put, List.setIfInBounds_toArray, List.set_cons_zero, List.set_cons_succ]
    exact mk_end
  case h2 =>
    refine prest_done rfl ?_
    intro w2 hE
    replace b0 := hE.block b0
    replace hx := hx.trans hE
    clear hE
    go_upto_region 3 with (fail)
    clear KO
    refine wp_region_noPanic ?_
    refine wp_region_held_drew (S := fun W => Ext w2 W) (by kernel_rfl) (Ext.drew _) (fun hH => ?_)
    have hS : ∀ W, Ext w2 W → W.rangeAt w.heap.size 0 (nc X).toList := fun W hW j v hv => by
      rw [cell_of_row W _ _ (qc X Y false) 26 (0, 0) (hW.block b0), Nat.zero_add]
      have hj : j < 4 := (List.getElem?_eq_some_iff.1 hv).1
      rw [← hv]
      match j, hj with
      | 0, _ => rfl
      | 1, _ => rfl
      | 2, _ => rfl
      | 3, _ => rfl
    have hS4 : ∀ W, Ext w2 W → W.rangeAt w.heap.size 4 (nc Y).toList := fun W hW j v hv => by
      rw [cell_of_row W _ _ (qc X Y false) 26 (0, 0) (hW.block b0)]
      have hj : j < 4 := (List.getElem?_eq_some_iff.1 hv).1
      rw [← hv]
      match j, hj with
      | 0, _ => rfl
      | 1, _ => rfl
      | 2, _ => rfl
      | 3, _ => rfl
    refine wpAnyH_take (i := 0) (v := ptrTo w.heap.size) rfl (by kernel_rfl) (by kernel_rfl) (by decide +kernel) (fun _ _ _ h => h) (Or.inl ⟨by rfl, fun W hSw => (by dsimp only at hSw; go_simp)⟩) hH ?_
    refine wpAnyH_take (i := 1) (v := nv X) rfl (by kernel_rfl) (by kernel_rfl) (by decide +kernel) (fun _ _ _ h => h) (yieldsIf_load_mid (by rfl) _ _ rfl _ _ rfl (nc X).toList _ hS uN rfl (iN X)) hH ?_
    refine wpAnyH_take (i := 3) (v := .pointer (some ⟨w.heap.size, 4, none⟩)) rfl (by kernel_rfl) (by kernel_rfl) (by decide +kernel) (fun _ _ _ h => h) (Or.inl ⟨by rfl, fun W hSw => (by dsimp only at hSw; go_simp)⟩) hH ?_
    refine wpAnyH_take (i := 4) (v := nv Y) rfl (by kernel_rfl) (by kernel_rfl) (by decide +kernel) (fun _ _ _ h => h) (yieldsIf_load_mid (by rfl) _ _ rfl _ _ rfl (nc Y).toList _ hS4 uN rfl (iN Y)) hH ?_
    refine wpAnyH_ready (rs := [2]) (by decide +kernel) (by simp) ?_
    refine AllReadyH.cons rfl (fun K hK => ?_) AllReadyH.nil
    go_simp
    refine (KB.out X _).mono ?_
    rintro e w3 ⟨g1, rfl, hg1, r1, hE1⟩
    have hE1 : Ext _ w3 := hE1
    refine hK.out _ _ (hH.trans hE1) (fun hH => ?_)
    clear hK K hE1
    refine wpAnyH_ready (rs := [5]) (by decide +kernel) (by simp) ?_
    refine AllReadyH.cons rfl (fun K hK => ?_) AllReadyH.nil
    go_simp
    refine (KB.out Y _).mono ?_
    rintro e w4 ⟨g2, rfl, hg2, r2, hE2⟩
    have hE2 : Ext w3 w4 := hE2
    have r1 := Ext.row r1 hE2
    refine hK.out _ _ (hH.trans hE2) (fun hH => ?_)
    clear hK K hE2
    refine wpAnyH_ready (rs := [6]) (by decide +kernel) (by simp) ?_
    refine AllReadyH.cons rfl (fun K hK => ?_) AllReadyH.nil
    go_simp
    have hb4 := heap_new w4 (.cells #[.slice (some ⟨g1, 0, none⟩) 32 32, .slice (some ⟨g2, 0, none⟩) 32 32] 43)
    have r1 := r1.alloc (.cells #[.slice (some ⟨g1, 0, none⟩) 32 32, .slice (some ⟨g2, 0, none⟩) 32 32] 43)
    have r2 := r2.alloc (.cells #[.slice (some ⟨g1, 0, none⟩) 32 32, .slice (some ⟨g2, 0, none⟩) 32 32] 43)
    refine hK.out _ _ (hH.trans (Ext.alloc _ _)) (fun hH => ?_)
    clear hK K
    refine wpAnyH_ready (rs := [7]) (by decide +kernel) (by simp) ?_
    refine AllReadyH.cons rfl (fun K hK => ?_) AllReadyH.nil
    go_simp
    refine (concat_calls w4.heap.size g1 g2 32 32 (bsv X) (bsv Y) (bsv_one X) (bsv_one Y) _ hb4 r1 r2).mono ?_
    rintro e w5 ⟨⟨v, rfl, ho⟩, hE5⟩
    have ho : Own w5 w.heap.size 5 v 64 (ptB X Y) := ho.base_le (Nat.le_trans (Below.size hx) (Below.size hH))
    refine hK.out _ _ (hH.trans hE5) (fun hH => ?_)
    clear hK K hE5
    refine wpAnyH_ready (rs := [8]) (by decide +kernel) (by simp) ?_
    refine AllReadyH.cons rfl (fun K hK => ?_) AllReadyH.nil
    go_simp
    refine hK.out _ _ hH (fun hH => ?_)
    clear hK K
    refine wpAnyH_ready (rs := [9]) (by decide +kernel) (by simp) ?_
    refine AllReadyH.cons rfl (fun K hK => ?_) AllReadyH.nil
    go_simp
    refine hK.out _ _ hH (fun hH => ?_)
    clear hK K
    refine wpAnyH_done (by decide +kernel) ?_ _
    refine NoPanic.normal ?_
    go_wp2
    go_ret2
    exact ⟨⟨_, rfl, ho⟩, hx.trans hH⟩
end Go.Proofs.Ytppfcdpokgnpfaa


/-
  point.Bytes: what has no bytes; point.Parse.
-/
namespace Go.Proofs.Ytppfcdpokgnpfaa
open Go.RowKit

set_option maxRecDepth 100000 in
set_option maxHeartbeats 8000000 in
theorem bytes_far (X Y : Nat) (w : World) :
    Calls Try.prog 24 #[qv X Y true] w fun e w' => e = .returned (.tuple #[.slice none 0 0, .iface 37 (.int .i64 1)]) ∧ Ext w w' := by
  unfold qv qc
  go_enter Try.func24, Try.ntmps24
  go_upto_region 1 with (fail)
  obtain ⟨hx, b0⟩ := blocks1 w (.cells #[.int .u64 (wd (X) 0), .int .u64 (wd (X) 1), .int .u64 (wd (X) 2), .int .u64 (wd (X) 3), .int .u64 (wd (Y) 0), .int .u64 (wd (Y) 1), .int .u64 (wd (Y) 2), .int .u64 (wd (Y) 3), .bool (true)] 26)
  generalize w.alloc (.cells #[.int .u64 (wd (X) 0), .int .u64 (wd (X) 1), .int .u64 (wd (X) 2), .int .u64 (wd (X) 3), .int .u64 (wd (Y) 0), .int .u64 (wd (Y) 1), .int .u64 (wd (Y) 2), .int .u64 (wd (Y) 3), .bool (true)] 26) = w1 at *
  have b0 : w1.heap[w.heap.size]? = some (.cells (qc X Y true) 26 (0, 0)) := b0
  refine' wp_plainG (m := 7) (A := _) ?h1 ?h2
  case h1 =>
    refine mk_step (.pointer (some ⟨w.heap.size, 8, none⟩)) rfl (made_field rfl rfl (fldT2 _ ·)) ?_
    simp only [Act.put, List.setIfInBounds_toArray, List.set_cons_zero, List.set_cons_succ]
    refine mk_step (.bool true) rfl (made_load1 rfl rfl b0 rfl (isn_bool ·)) ?_
    simp only [Act.put, List.setIfInBounds_toArray, List.set_cons_zero, List.set_cons_succ]
    refine mk_step (.bool true) rfl (made_move (.inl rfl) rfl) ?_
    simp only [Act.put, List.setIfInBounds_toArray, List.set_cons_zero, List.set_cons_succ]
    refine mk_skip rfl ?_
    simp only [Act.put, List.setIfInBounds_toArray, List.set_cons_zero, List.set_cons_succ]
    refine mk_skip rfl ?_
    simp only [Act.put, List.setIfInBounds_toArray, List.set_cons_zero, List.set_cons_succ]
    refine mk_skip rfl ?_
    simp only [Act.put, List.setIfInBounds_toArray, List.set_cons_zero, List.set_cons_succ]
    refine mk_step (.bool true) rfl (made_pick rfl rfl rfl) ?_
    simp only [Act.put, List.setIfInBounds_toArray, List.set_cons_zero, List.set_cons_succ]
    exact mk_end
  case h2 =>
    refine prest_done rfl ?_
    intro w2 hE
    replace b0 := hE.block b0
    replace hx := hx.trans hE
    clear hE
    go_upto_region 2 with (fail)
    go_wp2
    go_ret2
    exact ⟨rfl, hx⟩
set_option maxRecDepth 100000 in
set_option maxHeartbeats 8000000 in
theorem bytes_off (X Y : Nat) (haX : X < top) (haY : Y < top) (haB : onB X Y false = false) (w : World) :
    Calls Try.prog 24 #[qv X Y false] w fun e w' => e = .returned (.tuple #[.slice none 0 0, .iface 37 (.int .i64 1)]) ∧ Ext w w' := by
  have kaX := veil haX
  have kaY := veil haY
  have kaB := veil haB
  clear haX haY haB
  unfold qv qc
  go_enter Try.func24, Try.ntmps24
  go_upto_region 1 with (fail)
  obtain ⟨hx, b0⟩ := blocks1 w (.cells #[.int .u64 (wd (X) 0), .int .u64 (wd (X) 1), .int .u64 (wd (X) 2), .int .u64 (wd (X) 3), .int .u64 (wd (Y) 0), .int .u64 (wd (Y) 1), .int .u64 (wd (Y) 2), .int .u64 (wd (Y) 3), .bool (false)] 26)
  generalize w.alloc (.cells #[.int .u64 (wd (X) 0), .int .u64 (wd (X) 1), .int .u64 (wd (X) 2), .int .u64 (wd (X) 3), .int .u64 (wd (Y) 0), .int .u64 (wd (Y) 1), .int .u64 (wd (Y) 2), .int .u64 (wd (Y) 3), .bool (false)] 26) = w1 at *
  have b0 : w1.heap[w.heap.size]? = some (.cells (qc X Y false) 26 (0, 0)) := b0
  refine' wp_plainG (m := 7) (A := _) ?h1 ?h2
  case h1 =>
    refine mk_step (.pointer (some ⟨w.heap.size, 8, none⟩)) rfl (made_field rfl rfl (fldT2 _ ·)) ?_
    simp only [Act.put, List.setIfInBounds_toArray, List.set_cons_zero, List.set_cons_succ]
    refine mk_step (.bool false) rfl (made_load1 rfl rfl b0 rfl (isn_bool ·)) ?_
    simp only [Act.put, List.setIfInBounds_toArray, List.set_cons_zero, List.set_cons_succ]
    refine mk_step (.bool false) rfl (made_move (.inl rfl) rfl) ?_
    simp only [Act.put, List.setIfInBounds_toArray, List.set_cons_zero, List.set_cons_succ]
    refine mk_want (qv X Y false) rfl (made_load rfl rfl b0 rfl Try.underlying26 rfl (iT _ _ _)) ?_
    simp only [Act.put, List.setIfInBounds_toArray, List.set_cons_zero, List.set_cons_succ]
    refine mk_want (.bool false) rfl (made_fun (args := [qv X Y false]) rfl rfl (fun W => run_callFunc_in Try.func13 rfl rfl _ W) (fun W hW => pOn_no kaX.out kaY.out kaB.out W)) ?_
    simp only [Act.put, List.setIfInBounds_toArray, List.set_cons_zero, List.set_cons_succ]
    refine mk_want (.bool true) rfl (made_not' rfl rfl rfl) ?_
    simp only [Act.put, List.setIfInBounds_toArray, List.set_cons_zero, List.set_cons_succ]
    refine mk_step (.bool true) rfl (made_pick rfl rfl rfl) ?_
    simp only [Act.put, List.setIfInBounds_toArray, List.set_cons_zero, List.set_cons_succ]
    exact mk_end
  case h2 =>
    refine prest_done rfl ?_
    intro w2 hE
    replace b0 := hE.block b0
    replace hx := hx.trans hE
    clear hE
    go_upto_region 2 with (fail)
    go_wp2
    go_ret2
    exact ⟨rfl, hx⟩
set_option maxRecDepth 100000 in
set_option maxHeartbeats 8000000 in
theorem parse_on (b o c : Nat) (y : Nat → Nat) (hy : ∀ j, y j < 256) (hc : 64 ≤ c) (w : World) (hlt : b < w.heap.size) (hcell : ∀ j, j < 64 → w.cell? ⟨b, o + j, none⟩ = some (.int .u8 (y j : Nat))) (h : onB (be32 y 0) (be32 y 32) false = true) :
    Calls Try.prog 26 #[.slice (some ⟨b, o, none⟩) 64 c] w fun e w' => e = .returned (.tuple #[qv (be32 y 0) (be32 y 32) false, .nilIface]) ∧ Ext w w' := by
  have lX := be32_lt hy 0
  have lY := be32_lt hy 32
  have eX : lev (fun k => y (32 - 1 - k)) 32 = be32 y 0 := by unfold be32; simp only [Nat.zero_add]
  have eY : lev (fun k => y (32 + (32 - 1 - k))) 32 = be32 y 32 := rfl
  have KX := veil (show ∀ W, Ext w W → Calls Try.prog 48 #[.slice (some ⟨b, o, none⟩) 32 c] W fun e W' => e = .returned (.tuple #[nv (be32 y 0), .nilIface]) ∧ Ext W W' from fun W hW => by
    rw [← eX]
    exact of_some b o 32 c y hy (by omega) W (Nat.lt_of_lt_of_le hlt (Below.size hW)) (fun j hj => (Below.cell (p := ⟨b, o + j, none⟩) hW hlt).trans (hcell j (by omega))))
  have KY := veil (show ∀ W, Ext w W → Calls Try.prog 48 #[.slice (some ⟨b, o + 32, none⟩) 32 (c - 32)] W fun e W' => e = .returned (.tuple #[nv (be32 y 32), .nilIface]) ∧ Ext W W' from fun W hW => by
    rw [← eY]
    exact of_some b (o + 32) 32 (c - 32) (fun j => y (32 + j)) (fun j => hy _) (by omega) W (Nat.lt_of_lt_of_le hlt (Below.size hW)) (fun j hj => by
      have := (Below.cell (p := ⟨b, o + (32 + j), none⟩) hW hlt).trans (hcell (32 + j) (by omega))
      rw [← Nat.add_assoc] at this
      exact this))
  have kO := fun W => on_is (be32 y 0) (be32 y 32) false lX lY W
  rw [h] at kO
  have KO := veil kO
  clear kO h eX eY lX lY hcell
  generalize be32 y 0 = X at *
  generalize be32 y 32 = Y at *
  have q1 : ∀ W, (Instr.sliceAt 43 (.slice (some ⟨b, o, none⟩) 64 c) none (some (.int .i64 32)) none).run Try.prog W = .ok (.slice (some ⟨b, o, none⟩) 32 c) W := fun W => by
    have h := cut_to (some ⟨b, o, none⟩) 64 c 32 (by omega) W
    unfold cutA at h
    rw [if_neg (by omega)] at h
    simpa [Addr.add_mid] using h
  have q2 : ∀ W, (Instr.sliceAt 43 (.slice (some ⟨b, o, none⟩) 64 c) (some (.int .i64 32)) none none).run Try.prog W = .ok (.slice (some ⟨b, o + 32, none⟩) 32 (c - 32)) W := fun W => by
    have h := cut_from (some ⟨b, o, none⟩) 64 c 32 (by omega) W
    unfold cutA at h
    rw [if_neg (by omega)] at h
    simpa [Addr.add_mid] using h
  have Q1 := veil q1
  have Q2 := veil q2
  clear q1 q2 hy hc
  go_enter Try.func26, Try.ntmps26
  go_upto_region 3 with (fail)
  obtain ⟨hx, b0⟩ := blocks1 w (.cells #[.int .u64 0, .int .u64 0, .int .u64 0, .int .u64 0, .int .u64 0, .int .u64 0, .int .u64 0, .int .u64 0, .bool false] 26)
  generalize w.alloc (.cells #[.int .u64 0, .int .u64 0, .int .u64 0, .int .u64 0, .int .u64 0, .int .u64 0, .int .u64 0, .int .u64 0, .bool false] 26) = w1 at *
  refine' wp_plain (m := 6) (A := _) (by kernel_rfl) ?h1 ?h2
  case h1 =>
    refine mk_step (.slice (some ⟨b, o, none⟩) 64 c) rfl (made_move (.inl rfl) rfl) ?_
    simp only [Act.put, List.setIfInBounds_toArray, List.set_cons_zero, List.set_cons_succ]
    refine mk_step (.slice (some ⟨b, o, none⟩) 32 c) rfl (made_slice rfl rfl Q1.out) ?_
    simp only [Act.put, List.setIfInBounds_toArray, List.set_cons_zero, List.set_cons_succ]
    refine mk_step (.tuple #[nv X, .nilIface]) rfl (made_fun (args := [.slice (some ⟨b, o, none⟩) 32 c]) rfl rfl (fun W => run_callFunc_in Try.func48 rfl rfl _ W) (fun W hW => KX.out W (hx.trans hW))) ?_
    simp only [Act.put, List.setIfInBounds_toArray, List.set_cons_zero, List.set_cons_succ]
    refine mk_step (.tuple #[nv X, .nilIface]) rfl (made_move (.inl rfl) rfl) ?_
    simp only [Act.put, List.setIfInBounds_toArray, List.set_cons_zero, List.set_cons_succ]
    refine mk_step (nv X) rfl (made_ext rfl rfl rfl) ?_
    simp only [Act.put, List.setIfInBounds_toArray, List.set_cons_zero, List.set_cons_succ]
    refine mk_step (.nilIface) rfl (made_ext rfl rfl rfl) ?_
    simp only [Act.put, List.setIfInBounds_toArray, List.set_cons_zero, List.set_cons_succ]
    exact mk_end
  case h2 =>
    refine prest_var' _ _ rfl rfl rfl rfl rfl rfl rfl (hzN ·) (fun _ => rfl) (fun _ => rfl) (iN _) (hsN _) (nc_one _) ?_
    intro gm1 w2 hgm1 bm1 hE
    replace b0 := hE.block b0
    replace hx := hx.trans hE
    clear hE
    simp only [Act.put, List.setIfInBounds_toArray, List.set_cons_zero, List.set_cons_succ]
    clear hgm1
    go_upto_region 4 with (fail)
    refine' wp_plain (m := 6) (A := _) (by kernel_rfl) ?h1 ?h2
    case h1 =>
      refine mk_step (.slice (some ⟨b, o, none⟩) 64 c) rfl (made_move (.inl rfl) rfl) ?_
      simp only [Act.put, List.setIfInBounds_toArray, List.set_cons_zero, List.set_cons_succ]
      refine mk_step (.slice (some ⟨b, o + 32, none⟩) 32 (c - 32)) rfl (made_slice rfl rfl Q2.out) ?_
      simp only [Act.put, List.setIfInBounds_toArray, List.set_cons_zero, List.set_cons_succ]
      refine mk_step (.tuple #[nv Y, .nilIface]) rfl (made_fun (args := [.slice (some ⟨b, o + 32, none⟩) 32 (c - 32)]) rfl rfl (fun W => run_callFunc_in Try.func48 rfl rfl _ W) (fun W hW => KY.out W (hx.trans hW))) ?_
      simp only [Act.put, List.setIfInBounds_toArray, List.set_cons_zero, List.set_cons_succ]
      refine mk_step (.tuple #[nv Y, .nilIface]) rfl (made_move (.inl rfl) rfl) ?_
      simp only [Act.put, List.setIfInBounds_toArray, List.set_cons_zero, List.set_cons_succ]
      refine mk_step (nv Y) rfl (made_ext rfl rfl rfl) ?_
      simp only [Act.put, List.setIfInBounds_toArray, List.set_cons_zero, List.set_cons_succ]
      refine mk_step (.nilIface) rfl (made_ext rfl rfl rfl) ?_
      simp only [Act.put, List.setIfInBounds_toArray, List.set_cons_zero, List.set_cons_succ]
      exact mk_end
    case h2 =>
      refine prest_var' _ _ rfl rfl rfl rfl rfl rfl rfl (hzN ·) (fun _ => rfl) (fun _ => rfl) (iN _) (hsN _) (nc_one _) ?_
      intro gm2 w3 hgm2 bm2 hE
      replace b0 := hE.block b0
      replace bm1 := hE.block bm1
      replace hx := hx.trans hE
      clear hE
      simp only [Act.put, List.setIfInBounds_toArray, List.set_cons_zero, List.set_cons_succ]
      clear hgm2
      go_upto_region 5 with (fail)
      refine' wp_plain (m := 3) (A := _) (by kernel_rfl) ?h1 ?h2
      case h1 =>
        refine mk_step (nv X) rfl (made_load rfl rfl bm1 rfl uN rfl (iN _)) ?_
        simp only [Act.put, List.setIfInBounds_toArray, List.set_cons_zero, List.set_cons_succ]
        refine mk_step (nv Y) rfl (made_load rfl rfl bm2 rfl uN rfl (iN _)) ?_
        simp only [Act.put, List.setIfInBounds_toArray, List.set_cons_zero, List.set_cons_succ]
        refine mk_step (qv X Y false) rfl (made_build (vs := [(0, nv X), (1, nv Y)]) rfl rfl (fun W => bldT W _ _)) ?_
        simp only [Act.put, List.setIfInBounds_toArray, List.set_cons_zero, List.set_cons_succ]
        exact mk_end
      case h2 =>
        refine prest_var _ _ rfl rfl rfl rfl rfl rfl rfl (hzT ·) (fun _ => rfl) (fun _ => rfl) (iT _ _ _) (hsT _ _ _) (qc_one _ _ _) ?_
        intro gm3 w4 hgm3 bm3 hE
        replace b0 := hE.block b0
        replace bm1 := hE.block bm1
        replace bm2 := hE.block bm2
        replace hx := hx.trans hE
        clear hE
        simp only [Act.put, List.setIfInBounds_toArray, List.set_cons_zero, List.set_cons_succ]
        clear hgm3
        go_upto_region 6 with (fail)
        refine' wp_plain (m := 3) (A := _) (by kernel_rfl) ?h1 ?h2
        case h1 =>
          refine mk_step (qv X Y false) rfl (made_load rfl rfl bm3 rfl Try.underlying26 rfl (iT _ _ _)) ?_
          simp only [Act.put, List.setIfInBounds_toArray, List.set_cons_zero, List.set_cons_succ]
          refine mk_step (.bool true) rfl (made_fun (args := [qv X Y false]) rfl rfl (fun W => run_callFunc_in Try.func13 rfl rfl _ W) (fun W hW => KO.out W)) ?_
          simp only [Act.put, List.setIfInBounds_toArray, List.set_cons_zero, List.set_cons_succ]
          refine mk_step (.bool false) rfl (made_not' rfl rfl rfl) ?_
          simp only [Act.put, List.setIfInBounds_toArray, List.set_cons_zero, List.set_cons_succ]
          exact mk_end
        case h2 =>
          refine prest_done rfl ?_
          intro w5 hE
          replace b0 := hE.block b0
          replace bm1 := hE.block bm1
          replace bm2 := hE.block bm2
          replace bm3 := hE.block bm3
          replace hx := hx.trans hE
          clear hE
          go_upto_region 8 with (fail)
          refine' wp_plain (m := 1) (A := _) (by kernel_rfl) ?h1 ?h2
          case h1 =>
            refine mk_step (qv X Y false) rfl (made_load rfl rfl bm3 rfl Try.underlying26 rfl (iT _ _ _)) ?_
            simp only [Act.put, List.setIfInBounds_toArray, List.set_cons_zero, List.set_cons_succ]
            exact mk_end
          case h2 =>
            refine prest_store' _ rfl rfl rfl rfl rfl rfl b0 (iT _ _ _) (hsT _ _ _) (qc_one _ _ _) ?_
            intro w6 hB hb
            go_wp2
            exact bodyPost_ret (results_row_tmp2 rfl _ _ (w.heap.size) 26 (qc X Y false) (0, 0) _ rfl hb Try.underlying26 rfl (iT _ _ _)) rfl ⟨rfl, hx.new hB (by omega)⟩
set_option maxRecDepth 100000 in
set_option maxHeartbeats 8000000 in
theorem parse_off (b o c : Nat) (y : Nat → Nat) (hy : ∀ j, y j < 256) (hc : 64 ≤ c) (w : World) (hlt : b < w.heap.size) (hcell : ∀ j, j < 64 → w.cell? ⟨b, o + j, none⟩ = some (.int .u8 (y j : Nat))) (h : onB (be32 y 0) (be32 y 32) false = false) :
    Calls Try.prog 26 #[.slice (some ⟨b, o, none⟩) 64 c] w fun e w' => e = .returned (.tuple #[qv 0 0 false, .iface 37 (.int .i64 2)]) ∧ Ext w w' := by
  have lX := be32_lt hy 0
  have lY := be32_lt hy 32
  have eX : lev (fun k => y (32 - 1 - k)) 32 = be32 y 0 := by unfold be32; simp only [Nat.zero_add]
  have eY : lev (fun k => y (32 + (32 - 1 - k))) 32 = be32 y 32 := rfl
  have KX := veil (show ∀ W, Ext w W → Calls Try.prog 48 #[.slice (some ⟨b, o, none⟩) 32 c] W fun e W' => e = .returned (.tuple #[nv (be32 y 0), .nilIface]) ∧ Ext W W' from fun W hW => by
    rw [← eX]
    exact of_some b o 32 c y hy (by omega) W (Nat.lt_of_lt_of_le hlt (Below.size hW)) (fun j hj => (Below.cell (p := ⟨b, o + j, none⟩) hW hlt).trans (hcell j (by omega))))
  have KY := veil (show ∀ W, Ext w W → Calls Try.prog 48 #[.slice (some ⟨b, o + 32, none⟩) 32 (c - 32)] W fun e W' => e = .returned (.tuple #[nv (be32 y 32), .nilIface]) ∧ Ext W W' from fun W hW => by
    rw [← eY]
    exact of_some b (o + 32) 32 (c - 32) (fun j => y (32 + j)) (fun j => hy _) (by omega) W (Nat.lt_of_lt_of_le hlt (Below.size hW)) (fun j hj => by
      have := (Below.cell (p := ⟨b, o + (32 + j), none⟩) hW hlt).trans (hcell (32 + j) (by omega))
      rw [← Nat.add_assoc] at this
      exact this))
  have kO := fun W => on_is (be32 y 0) (be32 y 32) false lX lY W
  rw [h] at kO
  have KO := veil kO
  clear kO h eX eY lX lY hcell
  generalize be32 y 0 = X at *
  generalize be32 y 32 = Y at *
  have q1 : ∀ W, (Instr.sliceAt 43 (.slice (some ⟨b, o, none⟩) 64 c) none (some (.int .i64 32)) none).run Try.prog W = .ok (.slice (some ⟨b, o, none⟩) 32 c) W := fun W => by
    have h := cut_to (some ⟨b, o, none⟩) 64 c 32 (by omega) W
    unfold cutA at h
    rw [if_neg (by omega)] at h
    simpa [Addr.add_mid] using h
  have q2 : ∀ W, (Instr.sliceAt 43 (.slice (some ⟨b, o, none⟩) 64 c) (some (.int .i64 32)) none none).run Try.prog W = .ok (.slice (some ⟨b, o + 32, none⟩) 32 (c - 32)) W := fun W => by
    have h := cut_from (some ⟨b, o, none⟩) 64 c 32 (by omega) W
    unfold cutA at h
    rw [if_neg (by omega)] at h
    simpa [Addr.add_mid] using h
  have Q1 := veil q1
  have Q2 := veil q2
  clear q1 q2 hy hc
  go_enter Try.func26, Try.ntmps26
  go_upto_region 3 with (fail)
  obtain ⟨hx, b0⟩ := blocks1 w (.cells #[.int .u64 0, .int .u64 0, .int .u64 0, .int .u64 0, .int .u64 0, .int .u64 0, .int .u64 0, .int .u64 0, .bool false] 26)
  generalize w.alloc (.cells #[.int .u64 0, .int .u64 0, .int .u64 0, .int .u64 0, .int .u64 0, .int .u64 0, .int .u64 0, .int .u64 0, .bool false] 26) = w1 at *
  refine' wp_plain (m := 6) (A := _) (by kernel_rfl) ?h1 ?h2
  case h1 =>
    refine mk_step (.slice (some ⟨b, o, none⟩) 64 c) rfl (made_move (.inl rfl) rfl) ?_
    simp only [Act.put, List.setIfInBounds_toArray, List.set_cons_zero, List.set_cons_succ]
    refine mk_step (.slice (some ⟨b, o, none⟩) 32 c) rfl (made_slice rfl rfl Q1.out) ?_
    simp only [Act.put, List.setIfInBounds_toArray, List.set_cons_zero, List.set_cons_succ]
    refine mk_step (.tuple #[nv X, .nilIface]) rfl (made_fun (args := [.slice (some ⟨b, o, none⟩) 32 c]) rfl rfl (fun W => run_callFunc_in Try.func48 rfl rfl _ W) (fun W hW => KX.out W (hx.trans hW))) ?_
    simp only [Act.put, List.setIfInBounds_toArray, List.set_cons_zero, List.set_cons_succ]
    refine mk_step (.tuple #[nv X, .nilIface]) rfl (made_move (.inl rfl) rfl) ?_
    simp only [Act.put, List.setIfInBounds_toArray, List.set_cons_zero, List.set_cons_succ]
    refine mk_step (nv X) rfl (made_ext rfl rfl rfl) ?_
    simp only [Act.put, List.setIfInBounds_toArray, List.set_cons_zero, List.set_cons_succ]
    refine mk_step (.nilIface) rfl (made_ext rfl rfl rfl) ?_
    simp only [Act.put, List.setIfInBounds_toArray, List.set_cons_zero, List.set_cons_succ]
    exact mk_end
  case h2 =>
    refine prest_var' _ _ rfl rfl rfl rfl rfl rfl rfl (hzN ·) (fun _ => rfl) (fun _ => rfl) (iN _) (hsN _) (nc_one _) ?_
    intro gm1 w2 hgm1 bm1 hE
    replace b0 := hE.block b0
    replace hx := hx.trans hE
    clear hE
    simp only [Act.put, List.setIfInBounds_toArray, List.set_cons_zero, List.set_cons_succ]
    clear hgm1
    go_upto_region 4 with (fail)
    refine' wp_plain (m := 6) (A := _) (by kernel_rfl) ?h1 ?h2
    case h1 =>
      refine mk_step (.slice (some ⟨b, o, none⟩) 64 c) rfl (made_move (.inl rfl) rfl) ?_
      simp only [Act.put, List.setIfInBounds_toArray, List.set_cons_zero, List.set_cons_succ]
      refine mk_step (.slice (some ⟨b, o + 32, none⟩) 32 (c - 32)) rfl (made_slice rfl rfl Q2.out) ?_
      simp only [Act.put, List.setIfInBounds_toArray, List.set_cons_zero, List.set_cons_succ]
      refine mk_step (.tuple #[nv Y, .nilIface]) rfl (made_fun (args := [.slice (some ⟨b, o + 32, none⟩) 32 (c - 32)]) rfl rfl (fun W => run_callFunc_in Try.func48 rfl rfl _ W) (fun W hW => KY.out W (hx.trans hW))) ?_
      simp only [Act.put, List.setIfInBounds_toArray, List.set_cons_zero, List.set_cons_succ]
      refine mk_step (.tuple #[nv Y, .nilIface]) rfl (made_move (.inl rfl) rfl) ?_
      simp only [Act.put, List.setIfInBounds_toArray, List.set_cons_zero, List.set_cons_succ]
      refine mk_step (nv Y) rfl (made_ext rfl rfl rfl) ?_
      simp only [Act.put, List.setIfInBounds_toArray, List.set_cons_zero, List.set_cons_succ]
      refine mk_step (.nilIface) rfl (made_ext rfl rfl rfl) ?_
      simp only [Act.put, List.setIfInBounds_toArray, List.set_cons_zero, List.set_cons_succ]
      exact mk_end
    case h2 =>
      refine prest_var' _ _ rfl rfl rfl rfl rfl rfl rfl (hzN ·) (fun _ => rfl) (fun _ => rfl) (iN _) (hsN _) (nc_one _) ?_
      intro gm2 w3 hgm2 bm2 hE
      replace b0 := hE.block b0
      replace bm1 := hE.block bm1
      replace hx := hx.trans hE
      clear hE
      simp only [Act.put, List.setIfInBounds_toArray, List.set_cons_zero, List.set_cons_succ]
      clear hgm2
      go_upto_region 5 with (fail)
      refine' wp_plain (m := 3) (A := _) (by kernel_rfl) ?h1 ?h2
      case h1 =>
        refine mk_step (nv X) rfl (made_load rfl rfl bm1 rfl uN rfl (iN _)) ?_
        simp only [Act.put, List.setIfInBounds_toArray, List.set_cons_zero, List.set_cons_succ]
        refine mk_step (nv Y) rfl (made_load rfl rfl bm2 rfl uN rfl (iN _)) ?_
        simp only [Act.put, List.setIfInBounds_toArray, List.set_cons_zero, List.set_cons_succ]
        refine mk_step (qv X Y false) rfl (made_build (vs := [(0, nv X), (1, nv Y)]) rfl rfl (fun W => bldT W _ _)) ?_
        simp only [Act.put, List.setIfInBounds_toArray, List.set_cons_zero, List.set_cons_succ]
        exact mk_end
      case h2 =>
        refine prest_var _ _ rfl rfl rfl rfl rfl rfl rfl (hzT ·) (fun _ => rfl) (fun _ => rfl) (iT _ _ _) (hsT _ _ _) (qc_one _ _ _) ?_
        intro gm3 w4 hgm3 bm3 hE
        replace b0 := hE.block b0
        replace bm1 := hE.block bm1
        replace bm2 := hE.block bm2
        replace hx := hx.trans hE
        clear hE
        simp only [Act.put, List.setIfInBounds_toArray, List.set_cons_zero, List.set_cons_succ]
        clear hgm3
        go_upto_region 6 with (fail)
        refine' wp_plain (m := 3) (A := _) (by kernel_rfl) ?h1 ?h2
        case h1 =>
          refine mk_step (qv X Y false) rfl (made_load rfl rfl bm3 rfl Try.underlying26 rfl (iT _ _ _)) ?_
          simp only [Act.put, List.setIfInBounds_toArray, List.set_cons_zero, List.set_cons_succ]
          refine mk_step (.bool false) rfl (made_fun (args := [qv X Y false]) rfl rfl (fun W => run_callFunc_in Try.func13 rfl rfl _ W) (fun W hW => KO.out W)) ?_
          simp only [Act.put, List.setIfInBounds_toArray, List.set_cons_zero, List.set_cons_succ]
          refine mk_step (.bool true) rfl (made_not' rfl rfl rfl) ?_
          simp only [Act.put, List.setIfInBounds_toArray, List.set_cons_zero, List.set_cons_succ]
          exact mk_end
        case h2 =>
          refine prest_done rfl ?_
          intro w5 hE
          replace b0 := hE.block b0
          replace bm1 := hE.block bm1
          replace bm2 := hE.block bm2
          replace bm3 := hE.block bm3
          replace hx := hx.trans hE
          clear hE
          go_upto_region 7 with (fail)
          refine' wp_plain (m := 2) (A := _) (by kernel_rfl) ?h1 ?h2
          case h1 =>
            refine mk_step (qv 0 0 false) rfl (made_build rfl rfl (bldT0 ·)) ?_
            simp only [Act.put, List.setIfInBounds_toArray, List.set_cons_zero, List.set_cons_succ]
            refine mk_step (.iface 37 (.int .i64 2)) rfl (made_iface rfl (mkErr2 ·)) ?_
            simp only [Act.put, List.setIfInBounds_toArray, List.set_cons_zero, List.set_cons_succ]
            exact mk_end
          case h2 =>
            refine prest_store' _ rfl rfl rfl rfl rfl rfl b0 (iT _ _ _) (hsT _ _ _) (qc_one _ _ _) ?_
            intro w6 hB hb
            go_wp2
            exact bodyPost_ret (results_row_tmp2 rfl _ _ (w.heap.size) 26 (qc 0 0 false) (0, 0) _ rfl hb Try.underlying26 rfl (iT _ _ _)) rfl ⟨rfl, hx.new hB (by omega)⟩
end Go.Proofs.Ytppfcdpokgnpfaa


/-
  What PointBytes' walk needs: a slice of 64 bytes as a string; a length; the document's answers.
-/
namespace Go.Proofs.Ytppfcdpokgnpfaa
open Go.RowKit

/-- The text of a point's bytes. -/
def pstr (X Y : Nat) : ByteArray := ((List.range 64).map fun j => if j < 32 then byv X (31 - j) else byv Y (31 - (j - 32))).foldl (fun r n => r.push (UInt8.ofNat n.toNat)) ByteArray.empty
theorem str_own {w : World} {base X Y : Nat} {v : Value} (ho : Own w base 5 v 64 (ptB X Y)) : (convert 43 9 v).run Try.prog w = .ok (.string (pstr X Y)) w := by
  obtain ⟨g, c, rfl, _, _, hp⟩ := ho.pre (by decide)
  rw [run_convert_bytes_string (P := Try.prog) w 43 9 5 _ _ _ Try.underlying43 Try.underlying5 Try.underlying9]
  refine run_bytesToString (P := Try.prog) w ⟨g, 0, none⟩ 64 c _ ?_
  have h := run_loadCells_list (P := Try.prog) w ⟨g, 0, none⟩ ((List.range 64).map (ptB X Y)) (fun j v hv => by
    have hadd : (⟨g, 0, none⟩ : Addr).add j = ⟨g, j, none⟩ := by unfold Addr.add; split <;> simp_all
    rw [hadd]
    by_cases hj : j < 64
    · rw [hp.cell hj]
      simp [hj] at hv
      rw [hv]
    · simp [hj] at hv)
  simp only [List.length_map, List.length_range] at h
  have e : (List.range 64).map (ptB X Y) = ((List.range 64).map fun j => if j < 32 then byv X (31 - j) else byv Y (31 - (j - 32))).map (fun n => Value.int .u8 n) := by
    rw [List.map_map]
    refine List.map_congr_left fun j _ => ?_
    simp only [Function.comp, ptB, bsv]
    split <;> rfl
  rw [h, e]
theorem made_len {o : Oper} {a : Act} {w : World} {x : Operand} {A : Option Addr} {n c : Nat} (ho : o.op = .call { callee := .builtin .len, args := [x].toArray, argTypes := #[43] }) (hx : a.eval x = .slice A n c) : Made Try.prog o (.int .i64 (n : Int)) a w := made_val fun W _ => by
  unfold execOp
  simp only [ho, resolve, List.map_toArray, List.map_cons, List.map_nil, hx, Sem.run_bind, Sem.run_pure, Result.andThen_ok, invoke, builtin]
  simp [Builtin.len_, go_sem]
set_option maxRecDepth 100000 in
set_option maxHeartbeats 4000000 in
theorem parse_no (A : Option Addr) (n c : Nat) (hn : n ≠ 64) (w : World) :
    Calls Try.prog 26 #[.slice A n c] w fun e w' => e = .returned (.tuple #[qv 0 0 false, .iface 37 (.int .i64 2)]) ∧ Ext w w' := by
  have hn2 : ¬ (n : Int) = 64 := by omega
  clear hn
  go_enter Try.func26, Try.ntmps26
  go_upto_region 2 with (fail)
  obtain ⟨hx, b0⟩ := blocks1 w (.cells #[.int .u64 0, .int .u64 0, .int .u64 0, .int .u64 0, .int .u64 0, .int .u64 0, .int .u64 0, .int .u64 0, .bool false] 26)
  generalize w.alloc (.cells #[.int .u64 0, .int .u64 0, .int .u64 0, .int .u64 0, .int .u64 0, .int .u64 0, .int .u64 0, .int .u64 0, .bool false] 26) = w1 at *
  refine' wp_plain (m := 2) (A := _) (by kernel_rfl) ?h1 ?h2
  case h1 =>
    refine mk_step (qv 0 0 false) rfl (made_build rfl rfl (bldT0 ·)) ?_
    simp only [Act.put, List.setIfInBounds_toArray, List.set_cons_zero, List.set_cons_succ]
    refine mk_step (.iface 37 (.int .i64 2)) rfl (made_iface rfl (mkErr2 ·)) ?_
    simp only [Act.put, List.setIfInBounds_toArray, List.set_cons_zero, List.set_cons_succ]
    exact mk_end
  case h2 =>
    refine prest_store' _ rfl rfl rfl rfl rfl rfl b0 (iT _ _ _) (hsT _ _ _) (qc_one _ _ _) ?_
    intro w2 hB hb
    go_wp2
    exact bodyPost_ret (results_row_tmp2 rfl _ _ (w.heap.size) 26 (qc 0 0 false) (0, 0) _ rfl hb Try.underlying26 rfl (iT _ _ _)) rfl ⟨rfl, hx.new hB (by omega)⟩
theorem bytes_err (X Y : Nat) (f : Bool) (hX : X < top) (hY : Y < top) (h : onB X Y f = false) (w : World) : Calls Try.prog 24 #[qv X Y f] w fun e w' => e = .returned (.tuple #[.slice none 0 0, .iface 37 (.int .i64 1)]) ∧ Ext w w' := by
  cases f with
  | true => exact bytes_far X Y w
  | false => exact bytes_off X Y hX hY h w
section
variable {P : Program} {ops : Array Oper} {o : Oper} {a : Act} {w : World}
theorem yif {v : Value} (hw : Region.wanted o (yielded ops a.tmps) = true) (h : ∀ W, Ext w W → (execOp a.eval o).run P W = .ok (.value v) W) : YieldsIf P ops (fun W => Ext w W) o v a := Or.inl ⟨hw, h⟩
theorem yif_load {ty : TypeId} {x : Operand} {g t : Nat} {C : Array Value} {fr : Nat × Nat} {d : TypeDesc} (hw : Region.wanted o (yielded ops a.tmps) = true) (ho : o.op = .load ty x) (hx : a.eval x = ptrTo g) (hb : w.heap[g]? = some (.cells C t fr))
    (hu : P.underlying ty = some d) (hd : d.isRow = true) (hi : (P.info? ty).map (·.size) = some C.size) : YieldsIf P ops (fun W => Ext w W) o (.agg C) a :=
  yieldsIf_load_mid hw ty x ho g 0 hx C.toList d (fun W hW j v hv => by rw [cell_of_row W g (0 + j) C t fr (hW.block hb), Nat.zero_add]; simpa using hv) hu hd (by simpa using hi)
theorem yif_load1 {ty : TypeId} {x : Operand} {g off t : Nat} {C : Array Value} {v : Value} {fr : Nat × Nat} (hw : Region.wanted o (yielded ops a.tmps) = true) (ho : o.op = .load ty x) (hx : a.eval x = .pointer (some ⟨g, off, none⟩)) (hb : w.heap[g]? = some (.cells C t fr))
    (hcs : C[off]? = some v) (hn : ∀ W, (isAgg ty).run P W = .ok false W) : YieldsIf P ops (fun W => Ext w W) o v a := yif hw fun W hW => by
  have hr : W.cell? ⟨g, off, none⟩ = some v := by rw [cell_of_row W g off C t fr (hW.block hb), hcs]
  have hl : (load ⟨g, off, none⟩).run P W = .ok v W := by simp [go_sem, hr]
  unfold execOp
  simp only [ho, hx, Instr.loadAt, Instr.sureAddr, Sem.run_bind, Sem.run_pure, Result.andThen_ok, loadVar, hn W, Bool.false_eq_true, if_false, hl]
theorem yif_conv {s t : TypeId} {x : Operand} {u v : Value} (hw : Region.wanted o (yielded ops a.tmps) = true) (ho : o.op = .convert s t x) (hx : a.eval x = u) (h : ∀ W, Ext w W → (convert s t u).run P W = .ok v W) : YieldsIf P ops (fun W => Ext w W) o v a := yif hw fun W hW => by
  unfold execOp
  simp only [ho, hx, Sem.run_bind, h W hW, Result.andThen_ok, Sem.run_pure]
end
theorem rparse_on (b o c : Nat) (y : Nat → Nat) (hy : ∀ j, y j < 256) (hc : 64 ≤ c) (w : World) (hlt : b < w.heap.size) (hcell : ∀ j, j < 64 → w.cell? ⟨b, o + j, none⟩ = some (.int .u8 (y j : Nat))) (h : onB (be32 y 0) (be32 y 32) false = true) :
    Calls Try.prog 27 #[.slice (some ⟨b, o, none⟩) 64 c] w fun e w' => e = .returned (.tuple #[qv (be32 y 0) (be32 y 32) false, .bool true]) ∧ Ext w w' := by
  have k := rparse_64 b o c y hy hc w hlt hcell
  rw [h, if_pos rfl] at k
  exact k
theorem rparse_off (b o c : Nat) (y : Nat → Nat) (hy : ∀ j, y j < 256) (hc : 64 ≤ c) (w : World) (hlt : b < w.heap.size) (hcell : ∀ j, j < 64 → w.cell? ⟨b, o + j, none⟩ = some (.int .u8 (y j : Nat))) (h : onB (be32 y 0) (be32 y 32) false = false) :
    Calls Try.prog 27 #[.slice (some ⟨b, o, none⟩) 64 c] w fun e w' => e = .returned (.tuple #[qv 0 0 false, .bool false]) ∧ Ext w w' := by
  have k := rparse_64 b o c y hy hc w hlt hcell
  rw [h, if_neg (by decide)] at k
  rw [qv_zero]
  exact k
theorem rparse_none (A : Option Addr) (n c : Nat) (hn : n ≠ 64) (w : World) :
    Calls Try.prog 27 #[.slice A n c] w fun e w' => e = .returned (.tuple #[qv 0 0 false, .bool false]) ∧ Ext w w' := by
  rw [qv_zero]
  exact rparse_no A n c hn w
end Go.Proofs.Ytppfcdpokgnpfaa
