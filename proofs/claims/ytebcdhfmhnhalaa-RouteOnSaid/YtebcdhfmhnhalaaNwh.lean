/-
  clapperlaw13.RouteBy walked.
-/
import Derived.Test.YtebcdhfmhnhalaaNwg
namespace Go.Proofs.Ytebcdhfmhnhalaa
open Go.RowKit

theorem feas_same {n : Nw} {fr at_ tu till t : Int} {is was : Bool} {ev fv : Value} (h : FeasA n fr at_ tu till is ev) (k : EarlA n fr at_ tu till t was fv) :
    (is = false ∧ was = false ∧ ev = errArg ∧ fv = errArg) ∨ (fairN n fr at_ tu till = true ∧ is = was ∧ EarlP n fr at_ tu till t was ∧ ev = .nilIface ∧ fv = .nilIface) := by
  rcases h with ⟨h0, h1, h2⟩ | ⟨h0, ⟨u, h1⟩, h2⟩
  · obtain ⟨_, k1, k2⟩ := earlA_no k h0
    exact .inl ⟨h1, k1, h2, k2⟩
  · obtain ⟨k1, k2⟩ := earlA_yes k h0
    exact .inr ⟨h0, (earl_same h1 k1).1, k1, h2, k2⟩
theorem earlP_false {n : Nw} {fr at_ tu till t : Int} (h : EarlP n fr at_ tu till t false) : t = 0 := by
  rcases h with ⟨h, _⟩ | ⟨_, h, _⟩
  · cases h
  · exact h
theorem more_ways {n : Nw} {fr at_ tu till t u more : Int} {later : Bool} {gv : Value} (hf : fairN n fr at_ tu till = true) (hm : 0 ≤ more) (h : EarlP n fr at_ tu till t true) (k : EarlA n fr at_ tu (till + more) u later gv) :
    gv = errArg ∨ (gv = .nilIface ∧ later = true ∧ u = t) := by
  obtain ⟨hM, _, _, _, _, hle, _⟩ := fairN_is hf
  rcases k with ⟨_, _, _, k⟩ | ⟨_, k1, k2⟩
  · exact .inl k
  · obtain ⟨e1, e2⟩ := earl_more (fine_may hM) hm hle h k1
    exact .inr ⟨k2, e1, e2⟩
theorem earlA_ev {n : Nw} {fr at_ tu till t : Int} {is : Bool} {ev : Value} (k : EarlA n fr at_ tu till t is ev) : ev = errArg ∨ ev = .nilIface := by
  rcases k with ⟨_, _, _, k⟩ | ⟨_, _, k⟩
  · exact .inl k
  · exact .inr k

set_option maxRecDepth 100000 in
set_option maxHeartbeats 8000000 in
theorem rby_walk (C : Code13) (v : Value) (n : Nw) (fr at_ tu till more : Int) (w : World) (hF : Nv13 w v n) (i1 : In64 fr) (i2 : In64 at_) (i3 : In64 tu) (i4 : In64 till) :
    Calls Try.prog 4 #[v, .int .i64 fr, .int .i64 at_, .int .i64 tu, .int .i64 till, .int .i64 more] w fun e w' => e = .returned (.bool true) ∧ Ext w w' := by
  have HF := veil hF
  obtain ⟨vS, vC, ws, rfl, _, _, _⟩ := hF
  have HC := veil C
  have HI := veil (And.intro i1 (And.intro i2 (And.intro i3 i4)))
  have KF := veil (fun W (h : Ext w W) => few13_calls _ n W (HF.out.ext h))
  have hE0 := Ext.alloc w (.cells #[vS, vC] 25)
  have hS0 := NwAt.new w vS vC
  clear C i1 i2 i3 i4
  obtain ⟨few, hfew⟩ : ∃ few, few = fewN n := ⟨_, rfl⟩
  rw [← hfew] at KF
  have HFew := veil hfew
  clear hfew
  go_enter Try.func4, Try.ntmps4
  go_upto_region 1 with (fail)
  obtain ⟨g, hg⟩ : ∃ g, g = w.heap.size := ⟨_, rfl⟩
  rw [← hg] at hS0 ⊢
  generalize w.alloc (.cells #[vS, vC] 25) = w0 at *
  have KU := veil (up13_calls HC.out w0)
  have HE := veil hE0
  have HS := veil hS0
  clear hE0 hS0 hg
  go_upto_region 3 with (first
    | (go_at_call 7; refine KU.out.mono ?_; rintro e w1 ⟨rfl, hE1⟩; have HE1 := veil (HE.out.trans hE1); have HS1 := veil (HS.out.ext hE1); clear hE1)
    | ((with_reducible refine at_slot 24 ?_); refine wpList_load_row rfl 25 _ rfl g rfl 25 #[vS, vC] (0, 0) _ HS1.out Try.underlying25 rfl iNw ?_)
    | (go_at_call 8; refine (KF.out _ HE1.out).mono ?_; rintro e w2 ⟨rfl, hE2⟩))
  have HE2 := veil (HE1.out.trans hE2)
  have HS2 := veil (HS1.out.ext hE2)
  clear hE2 HE1 HS1 HE HS KU KF
  cases few with
  | false =>
    go_wp2
    go_ret
    exact ⟨rfl, HE2.out⟩
  | true =>
  by_cases g0 : more < 0
  · have f0 : decide (more < 0) = true := decide_eq_true g0
    go_wp2
    go_ret
    exact ⟨rfl, HE2.out⟩
  have f0 : decide (more < 0) = false := decide_eq_false g0
  by_cases g1 : (4320 : Int) < more
  · have f1 : decide ((4320 : Int) < more) = true := decide_eq_true g1
    go_wp2
    go_ret
    exact ⟨rfl, HE2.out⟩
  have f1 : decide ((4320 : Int) < more) = false := decide_eq_false g1
  have hf1 := few1_of HFew.out.symm
  have KG := veil (fun W (h : Ext w W) => HC.out.feas _ n fr at_ tu till W (HF.out.ext h) hf1 HI.out.1 HI.out.2.1 HI.out.2.2.1 HI.out.2.2.2)
  have KE := veil (fun x W (h : Ext w W) => HC.out.earl _ n fr at_ tu x W (HF.out.ext h) hf1 HI.out.1 HI.out.2.1 HI.out.2.2.1)
  have KE1 := veil (fun W (h : Ext w W) => KE.out till W h HI.out.2.2.2)
  have HMo := veil (show 0 ≤ more ∧ more ≤ 4320 by omega)
  clear hf1 g0 g1
  go_upto_region 6 with (first
    | ((with_reducible refine at_slot 38 ?_); refine wpList_load_row rfl 25 _ rfl g rfl 25 #[vS, vC] (0, 0) _ HS2.out Try.underlying25 rfl iNw ?_)
    | (go_at_call 14; refine (KG.out _ HE2.out).mono ?_; rintro e w3 ⟨is, ev, rfl, hE3, hG⟩))
  have HE3 := veil (HE2.out.trans hE3)
  have HS3 := veil (HS2.out.ext hE3)
  have HG := veil hG
  clear hE3 HE2 HS2 KG hG f0 f1
  go_upto_region 7 with (first
    | ((with_reducible refine at_slot 47 ?_); refine wpList_load_row rfl 25 _ rfl g rfl 25 #[vS, vC] (0, 0) _ HS3.out Try.underlying25 rfl iNw ?_)
    | (go_at_call 9; refine (KE1.out _ HE3.out).mono ?_; rintro e w4 ⟨t, was, fv, rfl, hE4, hP⟩))
  have HE4 := veil (HE3.out.trans hE4)
  have HS4 := veil (HS3.out.ext hE4)
  clear hE4 HE3 HS3 KE1
  rcases feas_same HG.out hP with ⟨rfl, rfl, rfl, rfl⟩ | ⟨hfair, rfl, hP2, rfl, rfl⟩
  · unfold errArg
    have k1 := eqErr13a
    have k2 := neErr13
    clear HG hP KE
    go_wp2
    go_ret
    exact ⟨rfl, HE4.out⟩
  · have k2 := neNil13
    obtain ⟨hM, _, _, b1, b2, b3, b4⟩ := fairN_is hfair
    have KE2 := veil (fun W (h : Ext w W) => KE.out (till + more) W h ⟨by have := HMo.out.1; omega, by have := HMo.out.2; omega⟩)
    have hw : IntKind.i64.wrap (till + more) = till + more := by have := HMo.out.1; have := HMo.out.2; rw [IntKind.wrap_i64]; omega
    cases is with
    | false =>
      obtain rfl := earlP_false hP2
      have HZ := veil hP2
      clear HG hP KE hfair hM b1 b2 b3 b4 hP2
      go_upto_region 12 with (first
        | ((with_reducible refine at_slot 97 ?_); refine wpList_load_row rfl 25 _ rfl g rfl 25 #[vS, vC] (0, 0) _ HS4.out Try.underlying25 rfl iNw ?_)
        | (go_at_call 9; refine (KE2.out _ HE4.out).mono ?_; rintro e w5 ⟨u, later, gv, rfl, hE5, hQ⟩))
      have HE5 := veil (HE4.out.trans hE5)
      have k3 := neErr13
      rcases earlA_ev hQ with rfl | rfl
      · unfold errArg
        clear hQ hE5 HE4 HS4 KE2
        go_wp2
        go_ret
        exact ⟨rfl, HE5.out⟩
      · clear hQ hE5 HE4 HS4 KE2
        go_wp2
        go_ret
        exact ⟨rfl, HE5.out⟩
    | true =>
      obtain ⟨t0, t1⟩ := earl_in (fine_may hM) b3 hP2
      have f0 : decide (till < t) = false := decide_eq_false (by omega)
      have f1 : decide (t < at_) = false := decide_eq_false (by omega)
      have HZ := veil (And.intro hfair hP2)
      clear HG hP KE hfair hM b1 b2 b3 b4 hP2 t0 t1
      go_upto_region 12 with (first
        | ((with_reducible refine at_slot 97 ?_); refine wpList_load_row rfl 25 _ rfl g rfl 25 #[vS, vC] (0, 0) _ HS4.out Try.underlying25 rfl iNw ?_)
        | (go_at_call 9; refine (KE2.out _ HE4.out).mono ?_; rintro e w5 ⟨u, later, gv, rfl, hE5, hQ⟩))
      have HE5 := veil (HE4.out.trans hE5)
      have k3 := neErr13
      rcases more_ways HZ.out.1 HMo.out.1 HZ.out.2 hQ with rfl | ⟨rfl, rfl, rfl⟩
      · unfold errArg
        clear hQ hE5 HE4 HS4 KE2 HZ
        go_wp2
        go_ret
        exact ⟨rfl, HE5.out⟩
      · clear hQ hE5 HE4 HS4 KE2 HZ
        go_wp2
        go_ret
        exact ⟨rfl, HE5.out⟩
end Go.Proofs.Ytebcdhfmhnhalaa
