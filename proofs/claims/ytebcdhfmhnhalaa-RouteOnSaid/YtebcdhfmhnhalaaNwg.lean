/-
  clapperlaw13.RouteEarliest walked.
-/
import Derived.Test.YtebcdhfmhnhalaaNwe
import Derived.Test.YtebcdhfmhnhalaaNwf
namespace Go.Proofs.Ytebcdhfmhnhalaa
open Go.RowKit

theorem fairN_may {n : Nw} {fr at_ tu till : Int} (h : mayN n = false) : fairN n fr at_ tu till = false := by unfold fairN; rw [h]; rfl
theorem earlA_no {n : Nw} {fr at_ tu till t : Int} {is : Bool} {ev : Value} (h : EarlA n fr at_ tu till t is ev) (hf : fairN n fr at_ tu till = false) : t = 0 ∧ is = false ∧ ev = errArg := by
  rcases h with ⟨_, h1, h2, h3⟩ | ⟨h, _⟩
  · exact ⟨h1, h2, h3⟩
  · rw [hf] at h; cases h
theorem earlA_yes {n : Nw} {fr at_ tu till t : Int} {is : Bool} {ev : Value} (h : EarlA n fr at_ tu till t is ev) (hf : fairN n fr at_ tu till = true) : EarlP n fr at_ tu till t is ∧ ev = .nilIface := by
  rcases h with ⟨h, _⟩ | ⟨_, h1, h2⟩
  · rw [hf] at h; cases h
  · exact ⟨h1, h2⟩

set_option maxRecDepth 100000 in
set_option maxHeartbeats 8000000 in
theorem rearl_walk (C : Code13) (v : Value) (n : Nw) (fr at_ tu till : Int) (w : World) (hF : Nv13 w v n) (i1 : In64 fr) (i2 : In64 at_) (i3 : In64 tu) (i4 : In64 till) :
    Calls Try.prog 3 #[v, .int .i64 fr, .int .i64 at_, .int .i64 tu, .int .i64 till] w fun e w' => e = .returned (.bool true) ∧ Ext w w' := by
  have HF := veil hF
  obtain ⟨vS, vC, ws, rfl, _, _, _⟩ := hF
  have HC := veil C
  have HI := veil (And.intro i1 (And.intro i2 (And.intro i3 i4)))
  have KF := veil (fun W (h : Ext w W) => few13_calls _ n W (HF.out.ext h))
  have hE0 := Ext.alloc w (.cells #[vS, vC] 25)
  have hS0 := NwAt.new w vS vC
  clear C i1 i2 i3 i4
  go_enter Try.func3, Try.ntmps3
  go_upto_region 1 with (fail)
  obtain ⟨g, hg⟩ : ∃ g, g = w.heap.size := ⟨_, rfl⟩
  rw [← hg] at hS0 ⊢
  generalize w.alloc (.cells #[vS, vC] 25) = w0 at *
  have KU := veil (up13_calls HC.out w0)
  have HE := veil hE0
  have HS := veil hS0
  clear hE0 hS0 hg
  cases hfew : fewN n with
  | false =>
    rw [hfew] at KF
    go_upto_region 2 with (go_at_call 7; refine KU.out.mono ?_; rintro e w1 ⟨rfl, hE1⟩)
    have HE1 := veil (HE.out.trans hE1)
    have HS1 := veil (HS.out.ext hE1)
    clear hE1 HE HS KU
    go_wp2_with (first
      | ((with_reducible refine at_slot 20 ?_); refine wpList_load_row rfl 25 _ rfl g rfl 25 #[vS, vC] (0, 0) _ HS1.out Try.underlying25 rfl iNw ?_)
      | (go_at_call 8; refine (KF.out _ HE1.out).mono ?_; rintro e w2 ⟨rfl, hE2⟩))
    go_ret
    exact ⟨rfl, HE1.out.trans hE2⟩
  | true =>
    rw [hfew] at KF
    have hf1 := few1_of hfew
    have KE := veil (fun W (h : Ext w W) => HC.out.earl _ n fr at_ tu till W (HF.out.ext h) hf1 HI.out.1 HI.out.2.1 HI.out.2.2.1 HI.out.2.2.2)
    have KM := veil (fun W (h : Ext w W) => rmay13_calls _ n W (HF.out.ext h) hfew)
    have KQ := veil (fun W (h : Ext w W) => HC.out.may _ n W (HF.out.ext h) hf1)
    have KR := veil (fun W (h : Ext w W) => rfair13_calls _ n fr at_ tu till W (HF.out.ext h) hfew HI.out.2.1.1 HI.out.2.1.2 HI.out.2.2.2.1 HI.out.2.2.2.2)
    have KX := veil (fun W (h : Ext w W) (hf : fairN n fr at_ tu till = true) => rearl13_calls _ n fr at_ tu till W (HF.out.ext h) hf)
    clear hf1 hfew
    have kB : ∀ b : Bool, (b != b) = false := fun b => by cases b <;> rfl
    go_upto_region 5 with (first
      | (go_at_call 7; refine KU.out.mono ?_; rintro e w1 ⟨rfl, hE1⟩; have HE1 := veil (HE.out.trans hE1); have HS1 := veil (HS.out.ext hE1); clear hE1)
      | ((with_reducible refine at_slot 20 ?_); refine wpList_load_row rfl 25 _ rfl g rfl 25 #[vS, vC] (0, 0) _ HS1.out Try.underlying25 rfl iNw ?_)
      | (go_at_call 8; refine (KF.out _ HE1.out).mono ?_; rintro e w2 ⟨rfl, hE2⟩))
    have HE2 := veil (HE1.out.trans hE2)
    have HS2 := veil (HS1.out.ext hE2)
    clear hE2 HE1 HS1 HE HS KU KF
    go_upto_region 6 with (first
      | ((with_reducible refine at_slot 26 ?_); refine wpList_load_row rfl 25 _ rfl g rfl 25 #[vS, vC] (0, 0) _ HS2.out Try.underlying25 rfl iNw ?_)
      | (go_at_call 9; refine (KE.out _ HE2.out).mono ?_; rintro e w3 ⟨t, is, ev, rfl, hE3, hP⟩))
    have HE3 := veil (HE2.out.trans hE3)
    have HS3 := veil (HS2.out.ext hE3)
    have HP := veil hP
    clear hE3 HE2 HS2 KE hP
    go_upto_region 7 with (first
      | ((with_reducible refine at_slot 35 ?_); refine wpList_load_row rfl 25 _ rfl g rfl 25 #[vS, vC] (0, 0) _ HS3.out Try.underlying25 rfl iNw ?_)
      | (go_at_call 10; refine (KM.out _ HE3.out).mono ?_; rintro e w4 ⟨rfl, hE4⟩))
    have HE4 := veil (HE3.out.trans hE4)
    have HS4 := veil (HS3.out.ext hE4)
    clear hE4 HE3 HS3 KM
    cases hM : mayN n with
    | false =>
      rw [hM] at KQ
      obtain ⟨rfl, rfl, rfl⟩ := earlA_no HP.out (fairN_may hM)
      unfold errArg
      have k1 := eqErr13a
      clear HP KR KX hM
      go_upto_region 10 with (first
        | ((with_reducible refine at_slot 46 ?_); refine wpList_load_row rfl 25 _ rfl g rfl 25 #[vS, vC] (0, 0) _ HS4.out Try.underlying25 rfl iNw ?_)
        | (go_at_call 12; refine (KQ.out _ HE4.out).mono ?_; rintro e w5 ⟨rfl, hE5⟩))
      go_wp2
      go_ret
      exact ⟨rfl, HE4.out.trans hE5⟩
    | true =>
      rw [hM] at KQ
      clear hM
      obtain ⟨f, hf⟩ : ∃ f, f = fairN n fr at_ tu till := ⟨_, rfl⟩
      rw [← hf] at KR
      have Hf := veil hf
      clear hf
      go_upto_region 8 with (first
        | ((with_reducible refine at_slot 39 ?_); refine wpl_rowG13 rfl 25 _ rfl g rfl 25 #[vS, vC] (0, 0) _ HS4.out Try.underlying25 rfl iNw ?_)
        | (go_at_call 11; refine (KR.out _ HE4.out).mono ?_; rintro e w5 ⟨rfl, hE5⟩))
      have HE5 := veil (HE4.out.trans hE5)
      have HS5 := veil (HS4.out.ext hE5)
      clear hE5 HE4 HS4 KR
      cases f with
      | false =>
        obtain ⟨rfl, rfl, rfl⟩ := earlA_no HP.out Hf.out.symm
        unfold errArg
        have k1 := eqErr13a
        clear HP KX
        go_wp2_with (first
          | ((with_reducible refine at_slot 46 ?_); refine wpList_load_row rfl 25 _ rfl g rfl 25 #[vS, vC] (0, 0) _ HS5.out Try.underlying25 rfl iNw ?_)
          | (go_at_call 12; refine (KQ.out _ HE5.out).mono ?_; rintro e w6 ⟨rfl, hE6⟩))
        go_ret
        exact ⟨rfl, HE5.out.trans hE6⟩
      | true =>
        obtain ⟨hP, rfl⟩ := earlA_yes HP.out Hf.out.symm
        have HP2 := veil hP
        clear HP hP
        go_upto_region 12 with (first
          | ((with_reducible refine at_slot 46 ?_); refine wpList_load_row rfl 25 _ rfl g rfl 25 #[vS, vC] (0, 0) _ HS5.out Try.underlying25 rfl iNw ?_)
          | (go_at_call 12; refine (KQ.out _ HE5.out).mono ?_; rintro e w6 ⟨rfl, hE6⟩))
        have HE6 := veil (HE5.out.trans hE6)
        have HS6 := veil (HS5.out.ext hE6)
        clear hE6 HE5 HS5 KQ
        go_upto_region 13 with (first
          | ((with_reducible refine at_slot 66 ?_); refine wpList_load_row rfl 25 _ rfl g rfl 25 #[vS, vC] (0, 0) _ HS6.out Try.underlying25 rfl iNw ?_)
          | (go_at_call 13; refine (KX.out _ HE6.out Hf.out.symm).mono ?_; rintro e w7 ⟨⟨u, rfl, hR⟩, hE7⟩))
        have HE7 := veil (HE6.out.trans hE7)
        have k1 := eqNil13
        rcases earl_ref HP2.out hR with ⟨rfl, h0, rfl⟩ | ⟨rfl, h0, rfl⟩
        · have f0 : decide (t < 0) = false := decide_eq_false (by omega)
          clear hR HP2 hE7 HE6 HS6 KX h0
          go_wp2
          go_ret
          exact ⟨rfl, HE7.out⟩
        · have f0 : decide (u < 0) = true := decide_eq_true h0
          clear hR HP2 hE7 HE6 HS6 KX h0
          go_wp2
          go_ret
          exact ⟨rfl, HE7.out⟩
end Go.Proofs.Ytebcdhfmhnhalaa
