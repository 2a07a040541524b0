/-
  service.May, runsByWeek, Runs, On: the landed package's own.
-/
import Derived.Test.YtebcdhfmhnhalaaSvn
import Derived.Test.YtebcdhfmhnhalaaSve
namespace Go.Proofs.Ytebcdhfmhnhalaa
open Go.RowKit

theorem mayV_b {s : Sv} (h : boundB s = false) : mayV s = false := by unfold mayV; rw [h, Bool.and_false]
theorem mayV_e {s : Sv} (h : daysB s.ex = false) : mayV s = false := by unfold mayV; rw [h]; rfl
theorem mayV_c {s : Sv} (h : daysB s.ec = false) : mayV s = false := by unfold mayV; rw [h]; simp
theorem mayV_all {s : Sv} (h1 : boundB s = true) (h2 : daysB s.ex = true) (h3 : daysB s.ec = true) : mayV s = farB s.ex s.ec := by unfold mayV; rw [h1, h2, h3]; simp

set_option maxRecDepth 100000 in
set_option maxHeartbeats 8000000 in
theorem may12_calls (v : Value) (s : Sv) (w : World) (hF : Vs12 w v s) (h1 : s.ex.length ≤ 1000000000) (h2 : s.ec.length ≤ 1000000000) :
    Calls Try.prog 30 #[v] w fun e w' => e = .returned (.bool (mayV s)) ∧ Ext w w' := by
  obtain ⟨vE, vX, rfl, hE, hX⟩ := hF
  obtain ⟨R, hR⟩ : ∃ R, R = mayV s := ⟨_, rfl⟩
  rw [← hR]
  have KA := veil (fun W (h : Ext w W) => mayDays_calls vE s.ex W (hE.ext h) h1)
  have KB := veil (fun W (h : Ext w W) => mayDays_calls vX s.ec W (hX.ext h) h2)
  have KS := veil (fun W (h : Ext w W) (hb : daysB s.ec = true) => share_calls vE vX s.ex s.ec W (hE.ext h) h1 (hX.ext h) h2 (rise_of hb))
  obtain ⟨AE, cE, rfl, hcE, -⟩ := hE
  obtain ⟨AX, cX, rfl, hcX, -⟩ := hX
  have hE0 := Ext.alloc w (.cells (svC s (.slice AE s.ex.length cE) (.slice AX s.ec.length cX)) 43)
  have hS0 := SvAt.new w s (.slice AE s.ex.length cE) (.slice AX s.ec.length cX)
  have HR := veil hR
  clear hR h1 h2
  obtain ⟨wk, fr, tu, ex, ec⟩ := s
  simp only at HR KA KB KS hE0 hS0 hcE hcX ⊢
  obtain ⟨n, hn⟩ : ∃ n, n = ex.length := ⟨_, rfl⟩
  obtain ⟨m, hm⟩ : ∃ m, m = ec.length := ⟨_, rfl⟩
  rw [← hn] at KA KS hcE
  rw [← hm] at KB KS hcX
  rw [← hn, ← hm] at hE0 hS0
  simp only [← hn, ← hm]
  clear hn hm
  unfold svC at hE0 ⊢
  simp only at hE0 ⊢
  obtain ⟨A, hA⟩ : ∃ A, A = daysB ex := ⟨_, rfl⟩
  obtain ⟨B, hB⟩ : ∃ B, B = daysB ec := ⟨_, rfl⟩
  obtain ⟨F, hFF⟩ : ∃ F, F = farB ex ec := ⟨_, rfl⟩
  rw [← hA] at KA
  rw [← hB] at KB KS
  rw [← hFF] at KS
  have HA := veil (And.intro hA (And.intro hB hFF))
  clear hA hB hFF
  go_enter Try.func30, Try.ntmps30
  go_upto_region 1 with (fail)
  unfold SvAt svC at hS0
  simp only at hS0
  obtain ⟨g, hg⟩ : ∃ g, g = w.heap.size := ⟨_, rfl⟩
  rw [← hg] at hS0 ⊢
  generalize w.alloc (.cells #[.int .i64 wk, .int .i64 fr, .int .i64 tu, .slice AE n cE, .slice AX m cX] 43) = w0 at *
  have HS := veil (show SvAt w0 g ⟨wk, fr, tu, ex, ec⟩ (.slice AE n cE) (.slice AX m cX) from hS0)
  have HE := veil hE0
  clear hE0 hS0 hg
  have c0 := HS.out.at0
  have c1 := HS.out.at1
  have c2 := HS.out.at2
  have c3 := HS.out.at3
  have c4 := HS.out.at4
  simp only at c0 c1 c2
  by_cases g0 : (0 : Int) ≤ wk
  rotate_left
  · have f0 : decide ((0 : Int) ≤ wk) = false := decide_eq_false g0
    obtain rfl : R = false := HR.out.trans (mayV_b (boundB_no fun h => by omega))
    go_wp2_with (fail)
    go_wp2
    go_ret
    exact ⟨rfl, HE.out⟩
  have f0 : decide ((0 : Int) ≤ wk) = true := decide_eq_true g0
  by_cases g1 : wk ≤ 127
  rotate_left
  · have f1 : decide (wk ≤ 127) = false := decide_eq_false g1
    obtain rfl : R = false := HR.out.trans (mayV_b (boundB_no fun h => by omega))
    go_wp2_with (fail)
    go_wp2
    go_ret
    exact ⟨rfl, HE.out⟩
  have f1 : decide (wk ≤ 127) = true := decide_eq_true g1
  by_cases g2 : (0 : Int) ≤ fr
  rotate_left
  · have f2 : decide ((0 : Int) ≤ fr) = false := decide_eq_false g2
    obtain rfl : R = false := HR.out.trans (mayV_b (boundB_no fun h => by omega))
    go_wp2_with (fail)
    go_wp2
    go_ret
    exact ⟨rfl, HE.out⟩
  have f2 : decide ((0 : Int) ≤ fr) = true := decide_eq_true g2
  by_cases g3 : fr ≤ tu
  rotate_left
  · have f3 : decide (fr ≤ tu) = false := decide_eq_false g3
    obtain rfl : R = false := HR.out.trans (mayV_b (boundB_no fun h => by omega))
    go_wp2_with (fail)
    go_wp2
    go_ret
    exact ⟨rfl, HE.out⟩
  have f3 : decide (fr ≤ tu) = true := decide_eq_true g3
  by_cases g4 : tu ≤ 1048576
  rotate_left
  · have f4 : decide (tu ≤ 1048576) = false := decide_eq_false g4
    obtain rfl : R = false := HR.out.trans (mayV_b (boundB_no fun h => by omega))
    go_wp2_with (fail)
    go_wp2
    go_ret
    exact ⟨rfl, HE.out⟩
  have f4 : decide (tu ≤ 1048576) = true := decide_eq_true g4
  have HB := veil (boundB_yes (ex := ex) (ec := ec) ⟨g0, g1, g2, g3, g4⟩)
  clear g0 g1 g2 g3 g4
  cases A with
  | false =>
    obtain rfl : R = false := HR.out.trans (mayV_e HA.out.1.symm)
    go_wp2_with (first | (go_at_call 36; with_reducible refine (KA.out _ HE.out).mono ?_; rintro e w1 ⟨rfl, rfl⟩))
    go_ret
    exact ⟨rfl, HE.out⟩
  | true =>
    cases B with
    | false =>
      obtain rfl : R = false := HR.out.trans (mayV_c HA.out.2.1.symm)
      go_wp2_with (first | (go_at_call 36; with_reducible refine (KA.out _ HE.out).mono ?_; rintro e w1 ⟨rfl, rfl⟩) | (go_at_call 36; with_reducible refine (KB.out _ HE.out).mono ?_; rintro e w1 ⟨rfl, rfl⟩))
      go_ret
      exact ⟨rfl, HE.out⟩
    | true =>
      obtain rfl : R = F := HR.out.trans ((mayV_all HB.out HA.out.1.symm HA.out.2.1.symm).trans HA.out.2.2.symm)
      cases R with
      | false =>
        go_wp2_with (first | (go_at_call 36; with_reducible refine (KA.out _ HE.out).mono ?_; rintro e w1 ⟨rfl, rfl⟩) | (go_at_call 36; with_reducible refine (KB.out _ HE.out).mono ?_; rintro e w1 ⟨rfl, rfl⟩) | (go_at_call 37; refine (KS.out _ HE.out (by trivial)).mono ?_; rintro e w1 ⟨rfl, hE1⟩))
        go_ret
        exact ⟨rfl, HE.out.trans hE1⟩
      | true =>
        go_wp2_with (first | (go_at_call 36; with_reducible refine (KA.out _ HE.out).mono ?_; rintro e w1 ⟨rfl, rfl⟩) | (go_at_call 36; with_reducible refine (KB.out _ HE.out).mono ?_; rintro e w1 ⟨rfl, rfl⟩) | (go_at_call 37; refine (KS.out _ HE.out (by trivial)).mono ?_; rintro e w1 ⟨rfl, hE1⟩))
        go_ret
        exact ⟨rfl, HE.out.trans hE1⟩
end Go.Proofs.Ytebcdhfmhnhalaa
