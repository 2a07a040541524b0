/-
  service.Runs, nextByWeek: the landed package's own.
-/
import Derived.Test.YtebcdhfmhnhalaaSvp
namespace Go.Proofs.Ytebcdhfmhnhalaa
open Go.RowKit

theorem mayV_100 {s : Sv} (h : mayV s = true) : s.ex.length ≤ 1000000000 ∧ s.ec.length ≤ 1000000000 := by
  obtain ⟨h1, h2, -⟩ := mayV_parts h
  have := daysB_100 h1
  have := daysB_100 h2
  omega

set_option maxRecDepth 100000 in
set_option maxHeartbeats 8000000 in
theorem runs12_calls (v : Value) (s : Sv) (d : Int) (w : World) (hF : Vs12 w v s) (h1 : s.ex.length ≤ 1000000000) (h2 : s.ec.length ≤ 1000000000) :
    Calls Try.prog 32 #[v, .int .i64 d] w fun e w' => e = .returned (.bool (mayV s && runsV s d)) ∧ Ext w w' := by
  have KM := veil (fun W (h : Ext w W) => may12_calls v s W (hF.ext h) h1 h2)
  have KW := veil (fun W (h : Ext w W) (hM : mayV s = true) => runsByWeek_calls v s d W (hF.ext h) hM)
  obtain ⟨vE, vX, rfl, hE, hX⟩ := hF
  have KA := veil (fun W (h : Ext w W) (hM : mayV s = true) => has12_calls vE s.ex d W (hE.ext h) h1 (rise_of (mayV_parts hM).1))
  obtain ⟨AE, cE, rfl, -, -⟩ := hE
  obtain ⟨AX, cX, rfl, -, -⟩ := hX
  rw [runsV_w]
  clear h1 h2
  obtain ⟨n, hn⟩ : ∃ n, n = s.ex.length := ⟨_, rfl⟩
  obtain ⟨m, hm⟩ : ∃ n, n = s.ec.length := ⟨_, rfl⟩
  simp only [← hn, ← hm] at KM KW KA ⊢
  clear hn hm
  have hE0 := Ext.alloc w (.cells (svC s (.slice AE n cE) (.slice AX m cX)) 43)
  have hS0 := SvAt.new w s (.slice AE n cE) (.slice AX m cX)
  obtain ⟨M, hM⟩ : ∃ M, M = mayV s := ⟨_, rfl⟩
  obtain ⟨I, hI⟩ : ∃ I, I = decide (d ∈ s.ex) := ⟨_, rfl⟩
  obtain ⟨J, hJ⟩ : ∃ J, J = weekV s d := ⟨_, rfl⟩
  rw [← hM, ← hI, ← hJ]
  rw [← hM] at KM
  rw [← hM, ← hI] at KA
  rw [← hM, ← hJ] at KW
  clear hM hI hJ
  go_enter Try.func32, Try.ntmps32
  go_upto_region 1 with (fail)
  obtain ⟨g, hg⟩ : ∃ g, g = w.heap.size := ⟨_, rfl⟩
  rw [← hg] at hS0 ⊢
  generalize w.alloc (.cells (svC s (.slice AE n cE) (.slice AX m cX)) 43) = w0 at *
  have HS := veil hS0
  have HE := veil hE0
  clear hE0 hS0 hg
  cases M with
  | false =>
    go_wp2_with (first
      | ((with_reducible refine at_slot 5 ?_); refine wpList_load_row rfl 43 _ rfl g rfl 43 (svC s (.slice AE n cE) (.slice AX m cX)) (0, 0) _ HS.out Try.underlying43 rfl (iSv s _ _) ?_)
      | (go_at_call 30; with_reducible refine (KM.out _ HE.out).mono ?_; rintro e w1 ⟨rfl, hE1⟩))
    go_ret
    exact ⟨rfl, HE.out.trans hE1⟩
  | true =>
    cases I with
    | true =>
      go_wp2_with (first
        | ((with_reducible refine at_slot 5 ?_); refine wpList_load_row rfl 43 _ rfl g rfl 43 (svC s (.slice AE n cE) (.slice AX m cX)) (0, 0) _ HS.out Try.underlying43 rfl (iSv s _ _) ?_)
        | (go_at_call 30; with_reducible refine (KM.out _ HE.out).mono ?_; rintro e w1 ⟨rfl, hE1⟩; have HE1 := veil (HE.out.trans hE1); have HS1 : Hid (SvAt w1 g s (.slice AE n cE) (.slice AX m cX)) := veil (HS.out.ext hE1); have c3 := HS1.out.at3; clear hE1)
        | (go_at_call 38; with_reducible refine (KA.out _ HE1.out (by trivial)).mono ?_; rintro e w2 ⟨rfl, rfl⟩)
        | ((with_reducible refine at_slot 13 ?_); refine wpl_rowG12 rfl 43 _ rfl g rfl 43 (svC s (.slice AE n cE) (.slice AX m cX)) (0, 0) _ HS1.out Try.underlying43 rfl (iSv _ _ _) ?_)
        | (go_at_call 39; with_reducible refine (KW.out _ HE1.out (by trivial)).mono ?_; rintro e w3 ⟨rfl, hE3⟩))
      go_ret
      exact ⟨rfl, HE1.out⟩
    | false =>
      go_wp2_with (first
        | ((with_reducible refine at_slot 5 ?_); refine wpList_load_row rfl 43 _ rfl g rfl 43 (svC s (.slice AE n cE) (.slice AX m cX)) (0, 0) _ HS.out Try.underlying43 rfl (iSv s _ _) ?_)
        | (go_at_call 30; with_reducible refine (KM.out _ HE.out).mono ?_; rintro e w1 ⟨rfl, hE1⟩; have HE1 := veil (HE.out.trans hE1); have HS1 : Hid (SvAt w1 g s (.slice AE n cE) (.slice AX m cX)) := veil (HS.out.ext hE1); have c3 := HS1.out.at3; clear hE1)
        | (go_at_call 38; with_reducible refine (KA.out _ HE1.out (by trivial)).mono ?_; rintro e w2 ⟨rfl, rfl⟩)
        | ((with_reducible refine at_slot 13 ?_); refine wpl_rowG12 rfl 43 _ rfl g rfl 43 (svC s (.slice AE n cE) (.slice AX m cX)) (0, 0) _ HS1.out Try.underlying43 rfl (iSv _ _ _) ?_)
        | (go_at_call 39; with_reducible refine (KW.out _ HE1.out (by trivial)).mono ?_; rintro e w3 ⟨rfl, hE3⟩))
      go_ret
      exact ⟨rfl, HE1.out.trans hE3⟩

/-- What nextByWeek tells: r, is. -/
def WeekP (s : Sv) (d t r : Int) (is : Bool) : Prop :=
  (is = true ∧ d ≤ r ∧ r < t ∧ weekV s r = true ∧ ∀ x, d ≤ x → x < r → weekV s x = false) ∨ (is = false ∧ r = 0 ∧ ∀ x, d ≤ x → x < t → weekV s x = false)
def WeekA (s : Sv) (d t : Int) (e : Ending) : Prop := ∃ r is, e = .returned (.tuple #[.int .i64 r, .bool is]) ∧ WeekP s d t r is
theorem weekV_zero {s : Sv} (h : s.wk = 0) (x : Int) : weekV s x = false := weekV_no fun k => by
  have := k.2.2
  rw [h] at this
  simp at this
theorem weekV_fr {s : Sv} {x : Int} (h : x < s.fr) : weekV s x = false := weekV_no fun k => by omega
theorem weekV_to {s : Sv} {x : Int} (h : s.to ≤ x) : weekV s x = false := weekV_no fun k => by omega

end Go.Proofs.Ytebcdhfmhnhalaa
