/-
  slices.Concat of two slices of 32 bytes; slices.Grow of nil.
-/
import Derived.Test.YtoikgkjkcampkaaMade
import Derived.Test.YtoikgkjkcampkaaOwn
import Derived.Test.YtoikgkjkcampkaaBytes
import Derived.Lib.AppendZeros
namespace Go.Proofs.Ytoikgkjkcampkaa
open Go.RowKit

set_option maxRecDepth 100000 in
set_option maxHeartbeats 2000000 in
theorem grow_calls (n : Nat) (h0 : 0 < n) (h1 : n ≤ 1048576) (w : World) :
    Calls Try.prog 29 #[.slice none 0 0, .int .i64 (n : Int)] w fun e w' => (∃ v, e = .returned v ∧ ∀ f, Own w' w.heap.size 5 v 0 f) ∧ Ext w w' := by
  obtain ⟨i8, hi8, hz0, hz1, hz2⟩ := info_parts infoByte
  have hr := fun W => Lib.run_append_nil_zeros (P := Try.prog) W 23 3 23 5 i8 (.int .u8 0) .i64 .i64 Try.underlying23 Try.underlying3 hi8 hz0 n h0 (by rw [hz1]; decide) (by omega) (by rw [hz2]; omega)
  have HR := veil hr
  have hg := grownCap_ge w n 0 5
  have hm := grownCap_le_maxLen w n 0 5 (by unfold maxLen; omega)
  have HG := veil (And.intro hg hm)
  have hi0 : (0 : Int) ≤ (n : Int) := by omega
  have hi1 : (0 : Int) < (n : Int) := by omega
  have hc0 : (0 : Int) ≤ (grownCap w n 0 5 : Int) := by omega
  clear hr hg hi8 hz0 hz1 hz2
  go_enter Try.func29, Try.ntmps29
  go_wp2_with (at_builtin; refine Lib.wpList_append_run _ rfl _ _ _ _ rfl _ _ rfl rfl _ _ (HR.out w) ?_)
  go_ret
  refine ⟨⟨_, rfl, fun f => ⟨by simp, .inr ⟨w.heap.size, _, _, rfl, Nat.le_refl _, heap_new w.drew _, Nat.zero_le _, HG.out.2, ?_, by simp⟩⟩⟩, (Ext.drew w).trans (Ext.alloc _ _)⟩
  have := HG.out.1
  simp [size_zeroCells]
  omega

/-- Both, one behind the other. -/
def catF (f1 f2 : Nat → Value) : Nat → Value := fun j => if j < 32 then f1 j else f2 (j - 32)
set_option maxRecDepth 100000 in
set_option maxHeartbeats 4000000 in
theorem concat_calls (h g1 g2 c1 c2 : Nat) (f1 f2 : Nat → Value) (o1 : ∀ j, (f1 j).oneCell' = true) (o2 : ∀ j, (f2 j).oneCell' = true) (w : World)
    (hb : w.heap[h]? = some (.cells #[.slice (some ⟨g1, 0, none⟩) 32 c1, .slice (some ⟨g2, 0, none⟩) 32 c2] 23 (0, 0))) (hg1 : w.rowIs g1 5 32 f1) (hg2 : w.rowIs g2 5 32 f2) :
    Calls Try.prog 24 #[.slice (some ⟨h, 0, none⟩) 2 2] w fun e w' => (∃ v, e = .returned v ∧ Own w' w.heap.size 5 v 64 (catF f1 f2)) ∧ Ext w w' := by
  obtain ⟨i8, hi8, hz0, hz1, hz2⟩ := info_parts infoByte
  have HI := veil (And.intro hi8 (And.intro hz0 (And.intro hz1 hz2)))
  clear hi8 hz0 hz1 hz2
  have c0 : w.cell? ⟨h, 0, none⟩ = some (.slice (some ⟨g1, 0, none⟩) 32 c1) := cell_of_row w h 0 _ _ _ hb
  have c1' : w.cell? ⟨h, 1, none⟩ = some (.slice (some ⟨g2, 0, none⟩) 32 c2) := cell_of_row w h 1 _ _ _ hb
  have HB := veil hb
  have HG1 := veil hg1
  have HG2 := veil hg2
  clear hb hg1 hg2
  go_enter Try.func24, Try.ntmps24
  go_wp2
  go_loop [3, 11] (fun v3 v11 => ∃ k : Nat, k ≤ 2 ∧ v11 = .int .i64 (k : Int) ∧ v3 = .int .i64 ((32 * k : Nat) : Int)) (fun _ v11 => (2 - intOf v11).toNat)
  case atStart => exact ⟨0, by omega, rfl, rfl⟩
  case round =>
    obtain ⟨k, hk, rfl, rfl⟩ := hrel
    have hk3 : k = 0 ∨ k = 1 ∨ k = 2 := by omega
    rcases hk3 with rfl | rfl | rfl
    · go_wp2
      go_round
      case rel => exact ⟨1, by omega, by go_num, by go_num⟩
      case measure => simp [intOf]
    · go_wp2
      go_round
      case rel => exact ⟨2, by omega, by go_num, by go_num⟩
      case measure => simp [intOf]
    · have hgr := fun W => grow_calls 64 (by decide) (by decide) W
      have HGR := veil hgr
      clear hgr
      go_wp2_with fail
      refine (HGR.out _).mono ?_
      rintro e w1 ⟨⟨v, rfl, hown⟩, hE⟩
      have hown := hown (catF f1 f2)
      have hx : Ext w w1 := hE
      clear hE
      clear c0 c1'
      go_wp2
      go_loopw [6, 27] (fun v6 v27 wr => ∃ k : Nat, k ≤ 2 ∧ v27 = .int .i64 (k : Int) ∧ Own wr w.heap.size 5 v6 (32 * k) (catF f1 f2) ∧ Ext w wr) (fun _ v27 _ => (2 - intOf v27).toNat)
      case atStart => exact ⟨0, by omega, rfl, hown, hx⟩
      case round =>
        clear hown hx
        obtain ⟨k, hk, rfl, hown, hx⟩ := hrel
        have b0 := hx.block HB.out
        have r1 := Ext.row HG1.out hx
        have r2 := Ext.row HG2.out hx
        have hk3 : k = 0 ∨ k = 1 ∨ k = 2 := by omega
        rcases hk3 with rfl | rfl | rfl
        · have c0 : wr.cell? ⟨h, 0, none⟩ = some (.slice (some ⟨g1, 0, none⟩) 32 c1) := cell_of_row wr h 0 _ _ _ b0
          have hfr : From wr (some ⟨g1, 0, none⟩) 32 f1 := .inr ⟨_, rfl, fun j hj => by rw [Addr.add_mid, Nat.zero_add]; exact r1.cell hj⟩
          have HF := veil hfr
          have HO := veil hown
          clear hfr hown b0
          go_wp2_with (at_builtin; refine wpList_append_from _ rfl _ _ _ rfl w.heap.size 5 i8 (.int .u8 0) 1 Try.underlying23 HI.out.1 HI.out.2.1 HI.out.2.2.1 HI.out.2.2.2 rfl _ _ _ rfl HO.out (some ⟨g1, 0, none⟩) 32 c1 rfl f1 HF.out o1 (by unfold maxLen; omega) (by omega) (Below.size hx) ?_)
          intro v' w' hown' hgr hkey
          go_wp2
          go_roundw
          case rel => exact ⟨1, by omega, by go_num, hown'.congr (fun j hj => by have h3 : j < 32 := by omega
                                                                                 simp [catF, h3]), grown_below hx hgr (Below.size hx) (fun k hk => (HO.out.lt hk).1)⟩
          case measure => simp [intOf]
        · have c0 : wr.cell? ⟨h, 1, none⟩ = some (.slice (some ⟨g2, 0, none⟩) 32 c2) := cell_of_row wr h 1 _ _ _ b0
          have hfr : From wr (some ⟨g2, 0, none⟩) 32 f2 := .inr ⟨_, rfl, fun j hj => by rw [Addr.add_mid, Nat.zero_add]; exact r2.cell hj⟩
          have HF := veil hfr
          have HO := veil hown
          clear hfr hown b0
          go_wp2_with (at_builtin; refine wpList_append_from _ rfl _ _ _ rfl w.heap.size 5 i8 (.int .u8 0) 1 Try.underlying23 HI.out.1 HI.out.2.1 HI.out.2.2.1 HI.out.2.2.2 rfl _ _ _ rfl HO.out (some ⟨g2, 0, none⟩) 32 c2 rfl f2 HF.out o2 (by unfold maxLen; omega) (by omega) (Below.size hx) ?_)
          intro v' w' hown' hgr hkey
          go_wp2
          go_roundw
          case rel => exact ⟨2, by omega, by go_num, hown'.congr (fun j hj => by simp only [catF]; by_cases h3 : j < 32
                                                                                 · simp [h3]
                                                                                 · simp [h3]), grown_below hx hgr (Below.size hx) (fun k hk => (HO.out.lt hk).1)⟩
          case measure => simp [intOf]
        · go_wp2
          go_ret
          exact ⟨⟨_, rfl, hown⟩, hx⟩
end Go.Proofs.Ytoikgkjkcampkaa
