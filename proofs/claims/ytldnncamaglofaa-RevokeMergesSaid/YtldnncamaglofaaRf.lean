/-
  slices.Concat of two lists of revoked serials.
-/
import Derived.Test.YtldnncamaglofaaRb
import Derived.Lib.AppendZeros
namespace Go.Proofs.Ytldnncamaglofaa
open Go.RowKit

theorem infoRv16f : (Try.prog.info? 43).map (fun i => (i.zero, i.size, i.bytes)) = some (some (.agg #[.int .i64 0, .int .i64 0]), 2, 16) := by kernel_rfl
set_option maxRecDepth 100000 in
set_option maxHeartbeats 4000000 in
theorem growR_calls (n : Nat) (h1 : n ≤ 1048576) (w : World) :
    Calls Try.prog 42 #[.slice none 0 0, .int .i64 (n : Int)] w fun e w' => (∃ v, e = .returned v ∧ OwnL 2 rvC w' w.heap.size 43 v []) ∧ Ext w w' := by
  by_cases h0 : 0 < n
  · obtain ⟨i16, hi, hz, hsz, hby⟩ := info_parts2 infoRv16f
    have hr := fun W => Lib.run_append_nil_zeros (P := Try.prog) W 22 3 22 43 i16 _ .i64 .i64 Try.underlying22 Try.underlying3 hi hz n h0 (by rw [hsz]; decide) (by omega) (by rw [hby]; omega)
    have HR := veil hr
    have hg := grownCap_ge w n 0 43
    have hm := grownCap_le_maxLen w n 0 43 (by unfold maxLen; omega)
    have HG := veil (And.intro hg hm)
    have hi0 : (0 : Int) ≤ (n : Int) := by omega
    have hi1 : (0 : Int) < (n : Int) := by omega
    have hd0 : decide ((n : Int) < 0) = false := by simp
    have hd1 : decide ((0 : Int) < (n : Int)) = true := by simp; omega
    have hd2 : decide (0 < n) = true := by simp; omega
    have hc0 : (0 : Int) ≤ (grownCap w n 0 43 : Int) := by omega
    clear hr hg hi hz hsz hby
    go_enter Try.func42, Try.ntmps42
    go_wp2_with (at_builtin; refine Lib.wpList_append_run _ rfl _ _ _ _ rfl _ _ rfl rfl _ _ (HR.out w) ?_)
    go_ret
    refine ⟨⟨_, rfl, ⟨by simp, .inr ⟨w.heap.size, _, _, rfl, Nat.le_refl _, heap_new w.drew _, Nat.zero_le _, HG.out.2, ?_, by simp⟩⟩⟩, (Ext.drew w).trans (Ext.alloc _ _)⟩
    have := HG.out.1
    simp [size_zeroCells]
    omega
  · obtain rfl : n = 0 := by omega
    go_enter Try.func42, Try.ntmps42
    go_wp2
    go_ret
    exact ⟨⟨_, rfl, OwnL.nil _ _ _⟩, Ext.refl _⟩

set_option maxRecDepth 100000 in
set_option maxHeartbeats 4000000 in
theorem concatR_calls (va vb : Value) (la lb : List Rv) (h : Nat) (w : World) (hA : Rs w va la) (hB : Rs w vb lb) (hla : la.length ≤ 1000) (hlb : lb.length ≤ 1000) (hh : w.heap[h]? = some (.cells #[va, vb] 22 (0, 0))) :
    Calls Try.prog 29 #[.slice (some ⟨h, 0, none⟩) 2 2] w fun e w' => ∃ v, e = .returned v ∧ OwnL 2 rvC w' w.heap.size 43 v (la ++ lb) ∧ Ext w w' := by
  obtain ⟨Aa, ca, rfl, hca, hxa⟩ := hA
  obtain ⟨Ab, cb, rfl, hcb, hxb⟩ := hB
  obtain ⟨i16, hi, hz, hsz, hby⟩ := info_parts2 infoRv16f
  have HI := veil (And.intro hi (And.intro hz (And.intro hsz hby)))
  clear hi hz hsz hby
  have HA := veil (show Rs w (.slice Aa la.length ca) la from ⟨Aa, ca, rfl, hca, hxa⟩)
  have HB := veil (show Rs w (.slice Ab lb.length cb) lb from ⟨Ab, cb, rfl, hcb, hxb⟩)
  have c0 : w.cell? ⟨h, 0, none⟩ = some (.slice Aa la.length ca) := cell_of_row w h 0 _ _ _ hh
  have c1 : w.cell? ⟨h, 1, none⟩ = some (.slice Ab lb.length cb) := cell_of_row w h 1 _ _ _ hh
  have HH := veil (And.intro hh (Array.getElem?_eq_some_iff.1 hh).1)
  obtain ⟨m, hm⟩ : ∃ m, m = la.length := ⟨_, rfl⟩
  obtain ⟨n, hn⟩ : ∃ n, n = lb.length := ⟨_, rfl⟩
  rw [← hm] at HA c0 hla
  rw [← hn] at HB c1 hlb
  have HM := veil (And.intro hm hn)
  have GC := veil (fun W => growR_calls (m + n) (by omega) W)
  clear hxa hxb hca hcb hh hm hn
  go_enter Try.func29, Try.ntmps29
  go_wp2
  refine wp_loop_rounds 3 ?_
  rw [rounds_succ]
  go_wp2
  rw [rounds_succ]
  go_wp2
  rw [rounds_succ]
  go_wp2_with fail
  have G := GC.out w
  rw [show ((m + n : Nat) : Int) = (m : Int) + (n : Int) by omega] at G
  refine G.mono ?_
  clear G GC
  rintro e w1 ⟨⟨v, rfl, hO⟩, hE⟩
  have d0 : w1.cell? ⟨h, 0, none⟩ = some (.slice Aa m ca) := (hE.cell HH.out.2).trans c0
  have HO := veil (And.intro hO hE)
  clear hO hE c0
  go_wp2
  refine wp_loop_rounds 3 ?_
  rw [rounds_succ]
  go_wp2_with ((with_reducible refine at_slot 33 ?_); refine wpl_append_ls (sz := 2) (cs := rvC) (l := []) (ys := la) Try.underlying22 HI.out.1 HI.out.2.1 HI.out.2.2.1 HI.out.2.2.2 rfl (by decide) rvC_length rvC_one rfl rfl rfl rfl HO.out.1 HM.out.1 (HA.out.ext HO.out.2) (by unfold maxLen; simp; omega) (by simp; omega) (Below.size HO.out.2) ?_; intro v2 w2 hO2 hG2)
  have hE2 : Ext w w2 := HO.out.2.grown hG2 (Below.size HO.out.2) fun k hk => (HO.out.1.lt hk).1
  rw [List.nil_append] at hO2
  have d1 : w2.cell? ⟨h, 1, none⟩ = some (.slice Ab n cb) := (hE2.cell HH.out.2).trans c1
  have HO2 := veil (And.intro hO2 hE2)
  clear hO2 hE2 hG2 c1 d0 HO
  rw [rounds_succ]
  go_wp2_with ((with_reducible refine at_slot 33 ?_); refine wpl_append_ls (sz := 2) (cs := rvC) (l := la) (ys := lb) Try.underlying22 HI.out.1 HI.out.2.1 HI.out.2.2.1 HI.out.2.2.2 rfl (by decide) rvC_length rvC_one rfl rfl rfl rfl HO2.out.1 HM.out.2 (HB.out.ext HO2.out.2) (by rw [← HM.out.1]; unfold maxLen; omega) (by rw [← HM.out.1]; omega) (Below.size HO2.out.2) ?_; intro v3 w3 hO3 hG3)
  have hE3 : Ext w w3 := HO2.out.2.grown hG3 (Below.size HO2.out.2) fun k hk => (HO2.out.1.lt hk).1
  have HO3 := veil (And.intro hO3 hE3)
  clear hO3 hE3 hG3 d1
  rw [rounds_succ]
  go_wp2
  go_ret
  exact ⟨_, rfl, HO3.out.1, HO3.out.2⟩
end Go.Proofs.Ytldnncamaglofaa
