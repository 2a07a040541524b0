/-
  clapperlaw13.RouteOn walked.
-/
import Derived.Test.YtebcdhfmhnhalaaNwh
namespace Go.Proofs.Ytebcdhfmhnhalaa
open Go.RowKit

theorem on_ways {n : Nw} {fr at_ b tu till t u x : Int} {there : Bool} {gv : Value} (h : EarlA n fr at_ b till t true .nilIface) (k : EarlA n b t tu till u true .nilIface) (l : EarlA n fr at_ tu till x there gv) : gv = .nilIface ∧ there = true ∧ x ≤ u := by
  rcases h with ⟨_, _, h, _⟩ | ⟨hf, h1, _⟩
  · cases h
  · rcases k with ⟨_, _, k, _⟩ | ⟨kf, k1, _⟩
    · cases k
    · obtain ⟨a1, a2, _, a4, a5, a6, a7⟩ := fairN_is hf
      obtain ⟨_, _, b3, _⟩ := fairN_is kf
      obtain ⟨l1, l2⟩ := earlA_yes l (by
        unfold fairN
        rw [a1, a2, b3, decide_eq_true ⟨a4, a5, a6, a7⟩]
        rfl)
      obtain ⟨e1, e2⟩ := earl_on h1 k1 l1
      exact ⟨l2, e1, e2⟩
theorem earl_64 {n : Nw} {fr at_ tu till t : Int} {ev : Value} (h : EarlA n fr at_ tu till t true ev) : In64 t := by
  rcases h with ⟨_, _, h, _⟩ | ⟨hf, h1, _⟩
  · cases h
  · obtain ⟨a1, _, _, a4, a5, a6, a7⟩ := fairN_is hf
    obtain ⟨t0, t1⟩ := earl_in (fine_may a1) a6 h1
    exact ⟨by omega, by omega⟩

set_option maxRecDepth 100000 in
set_option maxHeartbeats 8000000 in
theorem ron_walk (C : Code13) (v : Value) (n : Nw) (fr at_ b tu till : Int) (w : World) (hF : Nv13 w v n) (i1 : In64 fr) (i2 : In64 at_) (i5 : In64 b) (i3 : In64 tu) (i4 : In64 till) :
    Calls Try.prog 6 #[v, .int .i64 fr, .int .i64 at_, .int .i64 b, .int .i64 tu, .int .i64 till] w fun e w' => e = .returned (.bool true) ∧ Ext w w' := by
  have HF := veil hF
  obtain ⟨vS, vC, ws, rfl, _, _, _⟩ := hF
  have HC := veil C
  have HI := veil (And.intro i1 (And.intro i2 (And.intro i3 (And.intro i4 i5))))
  have KF := veil (fun W (h : Ext w W) => few13_calls _ n W (HF.out.ext h))
  have hE0 := Ext.alloc w (.cells #[vS, vC] 25)
  have hS0 := NwAt.new w vS vC
  clear C i1 i2 i3 i4 i5
  obtain ⟨few, hfew⟩ : ∃ few, few = fewN n := ⟨_, rfl⟩
  rw [← hfew] at KF
  have HFew := veil hfew
  clear hfew
  go_enter Try.func6, Try.ntmps6
  go_upto_region 1 with (fail)
  obtain ⟨g, hg⟩ : ∃ g, g = w.heap.size := ⟨_, rfl⟩
  rw [← hg] at hS0 ⊢
  generalize w.alloc (.cells #[vS, vC] 25) = w0 at *
  have KU := veil (up13_calls HC.out w0)
  have HE := veil hE0
  have HS := veil hS0
  clear hE0 hS0 hg
  cases few with
  | false =>
    go_wp2_with (first
      | (go_at_call 7; refine KU.out.mono ?_; rintro e w1 ⟨rfl, hE1⟩; have HE1 := veil (HE.out.trans hE1); have HS1 := veil (HS.out.ext hE1); clear hE1)
      | ((with_reducible refine at_slot 25 ?_); refine wpList_load_row rfl 25 _ rfl g rfl 25 #[vS, vC] (0, 0) _ HS1.out Try.underlying25 rfl iNw ?_)
      | (go_at_call 8; refine (KF.out _ HE1.out).mono ?_; rintro e w2 ⟨rfl, hE2⟩))
    go_ret
    exact ⟨rfl, HE1.out.trans hE2⟩
  | true =>
  have hf1 := few1_of HFew.out.symm
  have KE := veil (fun a x y z W (h : Ext w W) i1 i2 i3 i4 => HC.out.earl _ n a x y z W (HF.out.ext h) hf1 i1 i2 i3 i4)
  have KE1 := veil (fun W h => KE.out fr at_ b till W h HI.out.1 HI.out.2.1 HI.out.2.2.2.2 HI.out.2.2.2.1)
  have KE3 := veil (fun W h => KE.out fr at_ tu till W h HI.out.1 HI.out.2.1 HI.out.2.2.1 HI.out.2.2.2.1)
  clear hf1
  go_upto_region 5 with (first
    | (go_at_call 7; refine KU.out.mono ?_; rintro e w1 ⟨rfl, hE1⟩; have HE1 := veil (HE.out.trans hE1); have HS1 := veil (HS.out.ext hE1); clear hE1)
    | ((with_reducible refine at_slot 25 ?_); refine wpList_load_row rfl 25 _ rfl g rfl 25 #[vS, vC] (0, 0) _ HS1.out Try.underlying25 rfl iNw ?_)
    | (go_at_call 8; refine (KF.out _ HE1.out).mono ?_; rintro e w2 ⟨rfl, hE2⟩))
  have HE2 := veil (HE1.out.trans hE2)
  have HS2 := veil (HS1.out.ext hE2)
  clear hE2 HE1 HS1 HE HS KU KF
  go_upto_region 6 with (first
    | ((with_reducible refine at_slot 31 ?_); refine wpList_load_row rfl 25 _ rfl g rfl 25 #[vS, vC] (0, 0) _ HS2.out Try.underlying25 rfl iNw ?_)
    | (go_at_call 9; refine (KE1.out _ HE2.out).mono ?_; rintro e w3 ⟨t, is, ev, rfl, hE3, hP⟩))
  have HE3 := veil (HE2.out.trans hE3)
  have HS3 := veil (HS2.out.ext hE3)
  clear hE3 HE2 HS2 KE1
  have k2 := neNil13
  have k3 := neErr13
  rcases earlA_ev hP with rfl | rfl
  · unfold errArg
    clear hP
    go_wp2
    go_ret
    exact ⟨rfl, HE3.out⟩
  cases is with
  | false =>
    clear hP
    go_wp2
    go_ret
    exact ⟨rfl, HE3.out⟩
  | true =>
  have KE2 := veil (fun W h => KE.out b t tu till W h HI.out.2.2.2.2 (earl_64 hP) HI.out.2.2.1 HI.out.2.2.2.1)
  have HP := veil hP
  clear hP KE
  go_upto_region 9 with (first
    | ((with_reducible refine at_slot 48 ?_); refine wpList_load_row rfl 25 _ rfl g rfl 25 #[vS, vC] (0, 0) _ HS3.out Try.underlying25 rfl iNw ?_)
    | (go_at_call 9; refine (KE2.out _ HE3.out).mono ?_; rintro e w4 ⟨u, was, fv, rfl, hE4, hQ⟩))
  have HE4 := veil (HE3.out.trans hE4)
  have HS4 := veil (HS3.out.ext hE4)
  clear hE4 HE3 HS3 KE2
  rcases earlA_ev hQ with rfl | rfl
  · unfold errArg
    clear hQ
    go_wp2
    go_ret
    exact ⟨rfl, HE4.out⟩
  cases was with
  | false =>
    clear hQ
    go_wp2
    go_ret
    exact ⟨rfl, HE4.out⟩
  | true =>
  have HQ := veil hQ
  clear hQ
  go_upto_region 12 with (first
    | ((with_reducible refine at_slot 65 ?_); refine wpList_load_row rfl 25 _ rfl g rfl 25 #[vS, vC] (0, 0) _ HS4.out Try.underlying25 rfl iNw ?_)
    | (go_at_call 9; refine (KE3.out _ HE4.out).mono ?_; rintro e w5 ⟨x, there, gv, rfl, hE5, hR⟩))
  obtain ⟨rfl, rfl, h0⟩ := on_ways HP.out HQ.out hR
  have HE5 := veil (HE4.out.trans hE5)
  have f0 : decide (x ≤ u) = true := decide_eq_true h0
  have k1 := eqNil13
  clear hE5 HE4 HS4 KE3 HP HQ hR h0 k2 k3
  go_wp2
  go_ret
  exact ⟨rfl, HE5.out⟩
end Go.Proofs.Ytebcdhfmhnhalaa
