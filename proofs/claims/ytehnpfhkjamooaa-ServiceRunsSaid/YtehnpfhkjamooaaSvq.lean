/-
  service.Runs, nextByWeek: the landed package's own.
-/
import Derived.Test.YtehnpfhkjamooaaSvp
namespace Go.Proofs.Ytehnpfhkjamooaa
open Go.RowKit

theorem mayV_100 {s : Sv} (h : mayV s = true) : s.ex.length ≤ 1000000000 ∧ s.ec.length ≤ 1000000000 := by
  obtain ⟨h1, h2, -⟩ := mayV_parts h
  have := daysB_100 h1
  have := daysB_100 h2
  omega

set_option maxRecDepth 100000 in
set_option maxHeartbeats 8000000 in
theorem runs12_calls (v : Value) (s : Sv) (d : Int) (w : World) (hF : Vs12 w v s) (h1 : s.ex.length ≤ 1000000000) (h2 : s.ec.length ≤ 1000000000) :
    Calls Try.prog 11 #[v, .int .i64 d] w fun e w' => e = .returned (.bool (mayV s && runsV s d)) ∧ Ext w w' := by
  have KM := veil (fun W (h : Ext w W) => may12_calls v s W (hF.ext h) h1 h2)
  have KW := veil (fun W (h : Ext w W) (hM : mayV s = true) => runsByWeek_calls v s d W (hF.ext h) hM)
  obtain ⟨vE, vX, rfl, hE, hX⟩ := hF
  have KA := veil (fun W (h : Ext w W) (hM : mayV s = true) => has12_calls vE s.ex d W (hE.ext h) h1 (rise_of (mayV_parts hM).1))
  obtain ⟨AE, cE, rfl, -, -⟩ := hE
  obtain ⟨AX, cX, rfl, -, -⟩ := hX
  rw [runsV_w]
  clear h1 h2
  obtain ⟨n, hn⟩ : ∃ n, n = s.ex.length := ⟨_, rfl⟩
  obtain ⟨m, hm⟩ : ∃ n, n = s.ec.length := ⟨_, rfl⟩
  simp only [← hn, ← hm] at KM KW KA ⊢
  clear hn hm
  have hE0 := Ext.alloc w (.cells (svC s (.slice AE n cE) (.slice AX m cX)) 24)
  have hS0 := SvAt.new w s (.slice AE n cE) (.slice AX m cX)
  obtain ⟨M, hM⟩ : ∃ M, M = mayV s := ⟨_, rfl⟩
  obtain ⟨I, hI⟩ : ∃ I, I = decide (d ∈ s.ex) := ⟨_, rfl⟩
  obtain ⟨J, hJ⟩ : ∃ J, J = weekV s d := ⟨_, rfl⟩
  rw [← hM, ← hI, ← hJ]
  rw [← hM] at KM
  rw [← hM, ← hI] at KA
  rw [← hM, ← hJ] at KW
  clear hM hI hJ
  go_enter Try.func11, Try.ntmps11
  go_upto_region 1 with (fail)
  obtain ⟨g, hg⟩ : ∃ g, g = w.heap.size := ⟨_, rfl⟩
  rw [← hg] at hS0 ⊢
  generalize w.alloc (.cells (svC s (.slice AE n cE) (.slice AX m cX)) 24) = w0 at *
  have HS := veil hS0
  have HE := veil hE0
  clear hE0 hS0 hg
  cases M with
  | false =>
    go_wp2_with (first
      | ((with_reducible refine at_slot 5 ?_); refine wpList_load_row rfl 24 _ rfl g rfl 24 (svC s (.slice AE n cE) (.slice AX m cX)) (0, 0) _ HS.out Try.underlying24 rfl (iSv s _ _) ?_)
      | (go_at_call 10; with_reducible refine (KM.out _ HE.out).mono ?_; rintro e w1 ⟨rfl, hE1⟩))
    go_ret
    exact ⟨rfl, HE.out.trans hE1⟩
  | true =>
    cases I with
    | true =>
      go_wp2_with (first
        | ((with_reducible refine at_slot 5 ?_); refine wpList_load_row rfl 24 _ rfl g rfl 24 (svC s (.slice AE n cE) (.slice AX m cX)) (0, 0) _ HS.out Try.underlying24 rfl (iSv s _ _) ?_)
        | (go_at_call 10; with_reducible refine (KM.out _ HE.out).mono ?_; rintro e w1 ⟨rfl, hE1⟩; have HE1 := veil (HE.out.trans hE1); have HS1 : Hid (SvAt w1 g s (.slice AE n cE) (.slice AX m cX)) := veil (HS.out.ext hE1); have c3 := HS1.out.at3; clear hE1)
        | (go_at_call 18; with_reducible refine (KA.out _ HE1.out (by trivial)).mono ?_; rintro e w2 ⟨rfl, rfl⟩)
        | ((with_reducible refine at_slot 13 ?_); refine wpl_rowG12 rfl 24 _ rfl g rfl 24 (svC s (.slice AE n cE) (.slice AX m cX)) (0, 0) _ HS1.out Try.underlying24 rfl (iSv _ _ _) ?_)
        | (go_at_call 19; with_reducible refine (KW.out _ HE1.out (by trivial)).mono ?_; rintro e w3 ⟨rfl, hE3⟩))
      go_ret
      exact ⟨rfl, HE1.out⟩
    | false =>
      go_wp2_with (first
        | ((with_reducible refine at_slot 5 ?_); refine wpList_load_row rfl 24 _ rfl g rfl 24 (svC s (.slice AE n cE) (.slice AX m cX)) (0, 0) _ HS.out Try.underlying24 rfl (iSv s _ _) ?_)
        | (go_at_call 10; with_reducible refine (KM.out _ HE.out).mono ?_; rintro e w1 ⟨rfl, hE1⟩; have HE1 := veil (HE.out.trans hE1); have HS1 : Hid (SvAt w1 g s (.slice AE n cE) (.slice AX m cX)) := veil (HS.out.ext hE1); have c3 := HS1.out.at3; clear hE1)
        | (go_at_call 18; with_reducible refine (KA.out _ HE1.out (by trivial)).mono ?_; rintro e w2 ⟨rfl, rfl⟩)
        | ((with_reducible refine at_slot 13 ?_); refine wpl_rowG12 rfl 24 _ rfl g rfl 24 (svC s (.slice AE n cE) (.slice AX m cX)) (0, 0) _ HS1.out Try.underlying24 rfl (iSv _ _ _) ?_)
        | (go_at_call 19; with_reducible refine (KW.out _ HE1.out (by trivial)).mono ?_; rintro e w3 ⟨rfl, hE3⟩))
      go_ret
      exact ⟨rfl, HE1.out.trans hE3⟩

/-- What nextByWeek tells: r, is. -/
def WeekP (s : Sv) (d t r : Int) (is : Bool) : Prop :=
  (is = true ∧ d ≤ r ∧ r < t ∧ weekV s r = true ∧ ∀ x, d ≤ x → x < r → weekV s x = false) ∨ (is = false ∧ r = 0 ∧ ∀ x, d ≤ x → x < t → weekV s x = false)
def WeekA (s : Sv) (d t : Int) (e : Ending) : Prop := ∃ r is, e = .returned (.tuple #[.int .i64 r, .bool is]) ∧ WeekP s d t r is
theorem weekV_zero {s : Sv} (h : s.wk = 0) (x : Int) : weekV s x = false := weekV_no fun k => by
  have := k.2.2
  rw [h] at this
  simp at this
theorem weekV_fr {s : Sv} {x : Int} (h : x < s.fr) : weekV s x = false := weekV_no fun k => by omega
theorem weekV_to {s : Sv} {x : Int} (h : s.to ≤ x) : weekV s x = false := weekV_no fun k => by omega

set_option maxRecDepth 100000 in
set_option maxHeartbeats 8000000 in
theorem nextByWeek_calls (v : Value) (s : Sv) (d t : Int) (w : World) (hF : Vs12 w v s) (hM : mayV s = true) (hd : 0 ≤ d) (ht : t ≤ 1048576) :
    Calls Try.prog 21 #[v, .int .i64 d, .int .i64 t] w fun e w' => WeekA s d t e ∧ Ext w w' := by
  obtain ⟨-, -, -, m1, m2, m3, m4, m5⟩ := mayV_parts hM
  have KW := veil (fun x W (h : Ext w W) => runsByWeek_calls v s x W (hF.ext h) hM)
  obtain ⟨vE, vX, rfl, hE, hX⟩ := hF
  obtain ⟨AE, cE, rfl, -, -⟩ := hE
  obtain ⟨AX, cX, rfl, -, -⟩ := hX
  obtain ⟨n, hn⟩ : ∃ n, n = s.ex.length := ⟨_, rfl⟩
  obtain ⟨m, hm⟩ : ∃ n, n = s.ec.length := ⟨_, rfl⟩
  simp only [← hn, ← hm] at KW ⊢
  clear hn hm hM
  have hE0 := Ext.alloc w (.cells (svC s (.slice AE n cE) (.slice AX m cX)) 24)
  have hS0 := SvAt.new w s (.slice AE n cE) (.slice AX m cX)
  go_enter Try.func21, Try.ntmps21
  go_upto_region 1 with (fail)
  obtain ⟨g, hg⟩ : ∃ g, g = w.heap.size := ⟨_, rfl⟩
  rw [← hg] at hS0 ⊢
  generalize w.alloc (.cells (svC s (.slice AE n cE) (.slice AX m cX)) 24) = w0 at *
  have HS := veil hS0
  have HE := veil hE0
  clear hE0 hS0 hg
  have c0 := HS.out.at0
  have c1 := HS.out.at1
  by_cases g0 : s.wk = 0
  · have f0 : (s.wk == 0) = true := by simp [g0]
    have HZ := veil (weekV_zero g0)
    clear g0
    go_wp2
    go_ret2
    exact ⟨⟨0, false, rfl, .inr ⟨rfl, rfl, fun x _ _ => HZ.out x⟩⟩, HE.out⟩
  have f0 : (s.wk == 0) = false := by simp [g0]
  clear g0
  clear m1 m2 m4 m5
  by_cases g1 : s.fr ≤ d
  all_goals
    go_upto_region 4 with (fail)
    go_loopw [8] (fun v wr => ∃ i : Int, v = .int .i64 i ∧ d ≤ i ∧ 0 ≤ i ∧ (∀ x, d ≤ x → x < i → weekV s x = false) ∧ Ext w0 wr)
      (fun v _ => (t - intOf v).toNat)
    case atStart => first
      | exact ⟨d, rfl, by omega, hd, fun x h1 h2 => by omega, Ext.refl _⟩
      | exact ⟨s.fr, rfl, by omega, m3, fun x h1 h2 => weekV_fr h2, Ext.refl _⟩
    case round =>
      obtain ⟨i, rfl, h1, h2, hall, hE⟩ := hrel
      clear c0 c1 f0
      have HB : Hid (SvAt wr g s (.slice AE n cE) (.slice AX m cX)) := veil (HS.out.ext hE)
      by_cases hlt : i < t
      · have hd1 : decide (i < t) = true := decide_eq_true hlt
        have hib : i ≤ 1048576 := by omega
        obtain ⟨R, hR⟩ : ∃ R, R = weekV s i := ⟨_, rfl⟩
        have KR1 := veil (KW.out i wr (HE.out.trans hE))
        rw [← hR] at KR1
        have HK := veil (And.intro hall (And.intro hR hE))
        clear hall hR hE g1 KW
        cases R with
        | true =>
          go_wp2_with (first
            | ((with_reducible refine at_slot 21 ?_); refine wpList_load_row rfl 24 _ rfl g rfl 24 (svC s (.slice AE n cE) (.slice AX m cX)) (0, 0) _ HB.out Try.underlying24 rfl (iSv s _ _) ?_)
            | (go_at_call 19; refine KR1.out.mono ?_; rintro e w1 ⟨rfl, hE1⟩))
          go_ret2
          exact ⟨⟨i, true, rfl, .inl ⟨rfl, h1, hlt, HK.out.2.1.symm, HK.out.1⟩⟩, HE.out.trans (HK.out.2.2.trans hE1)⟩
        | false =>
          go_wp2_with (first
            | ((with_reducible refine at_slot 21 ?_); refine wpList_load_row rfl 24 _ rfl g rfl 24 (svC s (.slice AE n cE) (.slice AX m cX)) (0, 0) _ HB.out Try.underlying24 rfl (iSv s _ _) ?_)
            | (go_at_call 19; refine KR1.out.mono ?_; rintro e w1 ⟨rfl, hE1⟩))
          go_roundw
          case rel =>
            refine ⟨i + 1, rfl, by omega, by omega, fun x hx hx2 => ?_, HK.out.2.2.trans hE1⟩
            by_cases c : x < i
            · exact HK.out.1 x hx c
            · obtain rfl : x = i := by omega
              exact HK.out.2.1.symm
          case measure => simp [intOf]; omega
      · have hd1 : decide (i < t) = false := decide_eq_false hlt
        have HK := veil (And.intro hall hE)
        clear hall hE KW g1
        go_wp2
        go_ret2
        exact ⟨⟨0, false, rfl, .inr ⟨rfl, rfl, fun x hx hx2 => HK.out.1 x hx (by omega)⟩⟩, HE.out.trans HK.out.2⟩
end Go.Proofs.Ytehnpfhkjamooaa
