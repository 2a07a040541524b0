/-
  clapperlaw12.ServiceWeeks walked.
-/
import Derived.Test.YtehnpfhkjamooaaSve
namespace Go.Proofs.Ytehnpfhkjamooaa
open Go.RowKit

set_option maxRecDepth 100000 in
set_option maxHeartbeats 8000000 in
theorem sweeks_walk (C : Code12) (wk fr tu d : Int) (w : World) (hd0 : -9223372036854775808 ≤ d) (hd1 : d ≤ 9223372036854775807) :
    Calls Try.prog 5 #[.int .i64 wk, .int .i64 fr, .int .i64 tu, .int .i64 d] w fun e w' => e = .returned (.bool true) ∧ Ext w w' := by
  obtain ⟨s, hs⟩ : ∃ s : Sv, s = ⟨wk, fr, tu, [], []⟩ := ⟨_, rfl⟩
  have hC : svC s (.slice none 0 0) (.slice none 0 0) = #[.int .i64 wk, .int .i64 fr, .int .i64 tu, .slice none 0 0, .slice none 0 0] := by rw [hs]; rfl
  have KM := veil (fun W => C.may _ s W (show Vs12 W (.agg (svC s (.slice none 0 0) (.slice none 0 0))) s by rw [hs]; exact sv_nil W wk fr tu) (by rw [hs]; exact Nat.zero_le _) (by rw [hs]; exact Nat.zero_le _))
  have KR := veil (fun x W (h : -9223372036854775808 ≤ x) (h' : x ≤ 9223372036854775807) => C.runs _ s x W (show Vs12 W (.agg (svC s (.slice none 0 0) (.slice none 0 0))) s by rw [hs]; exact sv_nil W wk fr tu) (by rw [hs]; exact Nat.zero_le _) (by rw [hs]; exact Nat.zero_le _) h h')
  have KU := veil (up12_calls C w)
  have HD := veil (And.intro hd0 hd1)
  clear C hd0 hd1
  go_enter Try.func5, Try.ntmps5
  go_upto_region 2 with (go_at_call 6; refine KU.out.mono ?_; rintro e w1 ⟨rfl, hE1⟩)
  have HE0 := veil (hE1.trans (Ext.alloc w1 (.cells (svC s (.slice none 0 0) (.slice none 0 0)) 24)))
  have HS0 : Hid (SvAt (w1.alloc (.cells (svC s (.slice none 0 0) (.slice none 0 0)) 24)) w1.heap.size s (.slice none 0 0) (.slice none 0 0)) := veil (SvAt.new w1 s _ _)
  clear hE1 KU
  go_upto_region 3 with ((with_reducible refine at_none ?_); refine wpList_store_row rfl 24 _ _ rfl w1.heap.size (svC s (.slice none 0 0) (.slice none 0 0)) rfl (by rw [hC]; rfl) 24 _ (heap_new w1 _) (iSv _ _ _) (by rw [hC]; rfl) sv_one ?_; rw [World.setRow_alloc_new])
  obtain ⟨g, hg⟩ : ∃ g, g = w1.heap.size := ⟨_, rfl⟩
  rw [← hg] at HS0 ⊢
  generalize w1.alloc (.cells (svC s (.slice none 0 0) (.slice none 0 0)) 24) = w0 at *
  clear hg hC
  obtain ⟨M, hM⟩ : ∃ M, M = mayV s := ⟨_, rfl⟩
  rw [← hM] at KM KR
  have HV := veil (And.intro hM hs)
  clear hM hs
  cases M with
  | false =>
    go_upto_region 4 with (first
      | ((with_reducible refine at_slot 16 ?_); refine wpList_load_row rfl 24 _ rfl g rfl 24 (svC s (.slice none 0 0) (.slice none 0 0)) (0, 0) _ HS0.out Try.underlying24 rfl (iSv _ _ _) ?_)
      | (go_at_call 10; refine (KM.out _).mono ?_; rintro e w2 ⟨rfl, hE2⟩))
    have HE2 := veil (HE0.out.trans hE2)
    have HS2 : Hid (SvAt w2 g s (.slice none 0 0) (.slice none 0 0)) := veil (HS0.out.ext hE2)
    clear hE2 HE0 HS0 KM
    have K0 := veil (KR.out d w2 HD.out.1 HD.out.2)
    simp only [Bool.false_and] at K0
    clear KR HV
    go_wp2_with (first
      | ((with_reducible refine at_slot 21 ?_); refine wpl_rowG12 rfl 24 _ rfl g rfl 24 (svC s (.slice none 0 0) (.slice none 0 0)) (0, 0) _ HS2.out Try.underlying24 rfl (iSv _ _ _) ?_)
      | (go_at_call 11; refine K0.out.mono ?_; rintro e w3 ⟨rfl, hE3⟩))
    go_ret
    exact ⟨rfl, HE2.out.trans hE3⟩
  | true =>
    go_upto_region 5 with (first
      | ((with_reducible refine at_slot 16 ?_); refine wpList_load_row rfl 24 _ rfl g rfl 24 (svC s (.slice none 0 0) (.slice none 0 0)) (0, 0) _ HS0.out Try.underlying24 rfl (iSv _ _ _) ?_)
      | (go_at_call 10; refine (KM.out _).mono ?_; rintro e w2 ⟨rfl, hE2⟩))
    have HE2 := veil (HE0.out.trans hE2)
    have HS2 : Hid (SvAt w2 g s (.slice none 0 0) (.slice none 0 0)) := veil (HS0.out.ext hE2)
    clear hE2 HE0 HS0 KM
    obtain ⟨_, _, _, m1, m2, m3, m4, m5⟩ := mayV_parts HV.out.1.symm
    rw [HV.out.2] at m1 m2 m3 m4 m5
    simp only at m1 m2 m3 m4 m5
    have K0 := veil (KR.out d w2 HD.out.1 HD.out.2)
    simp only [Bool.true_and] at K0
    have hw : IntKind.i64.wrap (tu - 8) = tu - 8 := by rw [IntKind.wrap_i64]; omega
    by_cases g0 : d < fr
    · have f0 : decide (d < fr) = true := decide_eq_true g0
      have f1 : decide (fr ≤ d) = false := decide_eq_false (by omega)
      rw [HV.out.2, runsV_off (by omega), ← HV.out.2] at K0
      clear KR HV HD g0 m1 m2 m3 m4 m5
      go_wp2_with (first
        | ((with_reducible refine at_slot 46 ?_); refine wpl_rowG12 rfl 24 _ rfl g rfl 24 (svC s (.slice none 0 0) (.slice none 0 0)) (0, 0) _ HS2.out Try.underlying24 rfl (iSv _ _ _) ?_)
        | (go_at_call 11; refine K0.out.mono ?_; rintro e w3 ⟨rfl, hE3⟩))
      go_ret
      exact ⟨rfl, HE2.out.trans hE3⟩
    have f0 : decide (d < fr) = false := decide_eq_false g0
    have f1 : decide (fr ≤ d) = true := decide_eq_true (by omega)
    by_cases g1 : tu - 8 < d
    · have f2 : decide (tu - 8 < d) = true := decide_eq_true g1
      by_cases g2 : d < tu
      · have f3 : decide (d < tu) = true := decide_eq_true g2
        clear KR HV HD K0 g0 g1 g2 m1 m2 m3 m4 m5
        go_wp2
        go_ret
        exact ⟨rfl, HE2.out⟩
      · have f3 : decide (d < tu) = false := decide_eq_false g2
        rw [HV.out.2, runsV_off (by omega), ← HV.out.2] at K0
        clear KR HV HD g0 g1 g2 m1 m2 m3 m4 m5
        go_wp2_with (first
          | ((with_reducible refine at_slot 46 ?_); refine wpl_rowG12 rfl 24 _ rfl g rfl 24 (svC s (.slice none 0 0) (.slice none 0 0)) (0, 0) _ HS2.out Try.underlying24 rfl (iSv _ _ _) ?_)
          | (go_at_call 11; refine K0.out.mono ?_; rintro e w3 ⟨rfl, hE3⟩))
        go_ret
        exact ⟨rfl, HE2.out.trans hE3⟩
    · have f2 : decide (tu - 8 < d) = false := decide_eq_false g1
      have K7 := veil (fun W => KR.out (d + 7) W (by omega) (by omega))
      simp only [Bool.true_and] at K7
      have KB := veil (fun W => KR.out d W HD.out.1 HD.out.2)
      simp only [Bool.true_and] at KB
      rw [HV.out.2, runsV_week (by omega) (by omega), ← HV.out.2] at K7
      obtain ⟨R, hR⟩ : ∃ R, R = runsV s d := ⟨_, rfl⟩
      have hd7 : IntKind.i64.wrap (d + 7) = d + 7 := by rw [IntKind.wrap_i64]; omega
      rw [← hR] at KB K7
      have fR : (R == R) = true := by cases R <;> rfl
      clear KR HV HD K0 hR
      go_upto_region 7 with (fail)
      refine wp_sched 12 [(true, List.range 12)] (by kernel_rfl) (by kernel_rfl) fun Q' hQ' => ?_
      refine' sched_row (A := _) _ rfl (by kernel_rfl) ?_ ?_
      rotate_left
      · intro D hD hN
        have kl : ∀ x : Gw D, SvAt x.val g s (.slice none 0 0) (.slice none 0 0) := fun x => HS2.out.ext (hD.grown _ x.property)
        have KC := veil (fun x : Gw D => up_calls12 hD (v := .bool R) (fun W _ => KB.out W) x)
        have KJ := veil (fun x : Gw D => up_calls12 hD (v := .bool R) (fun W _ => K7.out W) x)
        simp only [List.range, List.range.loop, pickI, consO, List.getElem?_cons_zero, List.getElem?_cons_succ]
        iterate 2 (go_big_quiet_step (fail))
        refine wpq_load_row12 rfl 24 _ rfl g rfl 24 (svC s (.slice none 0 0) (.slice none 0 0)) (0, 0) _ (fun W ⟨x, e⟩ => e ▸ kl x) Try.underlying24 rfl (iSv _ _ _) ?_
        simp only [Act.put, List.setIfInBounds_toArray, List.set_cons_succ, List.set_cons_zero]
        go_big_quiet_step (fail)
        go_big_quiet_step (exact KC.out _)
        refine wpq_load_row12 rfl 24 _ rfl g rfl 24 (svC s (.slice none 0 0) (.slice none 0 0)) (0, 0) _ (fun W ⟨x, e⟩ => e ▸ kl x) Try.underlying24 rfl (iSv _ _ _) ?_
        simp only [Act.put, List.setIfInBounds_toArray, List.set_cons_succ, List.set_cons_zero]
        iterate 2 (go_big_quiet_step (fail))
        go_big_quiet_step (exact KJ.out _)
        repeat (go_big_quiet_step (fail))
        exact wpq_end
      refine sched_end hQ' fun W4 hE4 => ?_
      go_wp2
      go_ret
      exact ⟨rfl, HE2.out.trans hE4⟩
end Go.Proofs.Ytehnpfhkjamooaa
