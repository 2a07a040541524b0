/-
  clapperlaw12.ServiceRuns walked.
-/
import Derived.Test.YtehnpfhkjamooaaSve
namespace Go.Proofs.Ytehnpfhkjamooaa
open Go.RowKit

theorem eqErr12 (w : World) : (binOp .eql 29 (.iface 32 (.int .i64 1)) (.iface 32 (.int .i64 1))).run Try.prog w = .ok (.bool true) w := by kernel_rfl
theorem eqNil12 (w : World) : (binOp .eql 29 .nilIface .nilIface).run Try.prog w = .ok (.bool true) w := by kernel_rfl

set_option maxRecDepth 100000 in
set_option maxHeartbeats 8000000 in
theorem sruns_walk (C : Code12) (v : Value) (s : Sv) (d m : Int) (w : World) (hF : Vs12 w v s) (hd0 : -9223372036854775808 ≤ d) (hd1 : d ≤ 9223372036854775807) (hm0 : -9223372036854775808 ≤ m) (hm1 : m ≤ 9223372036854775807) :
    Calls Try.prog 3 #[v, .int .i64 d, .int .i64 m] w fun e w' => e = .returned (.bool true) ∧ Ext w w' := by
  have HF := veil hF
  obtain ⟨vE, vX, rfl, hE, hX⟩ := hF
  obtain ⟨AE, cE, rfl, hcE, _⟩ := hE
  obtain ⟨AX, cX, rfl, hcX, _⟩ := hX
  obtain ⟨n, hn⟩ : ∃ n, n = s.ex.length := ⟨_, rfl⟩
  obtain ⟨p, hp⟩ : ∃ p, p = s.ec.length := ⟨_, rfl⟩
  rw [← hn] at HF hcE ⊢
  rw [← hp] at HF hcX ⊢
  have HN := veil (And.intro hn (And.intro hp (And.intro hd0 hd1)))
  have KO := veil (fun W => C.on m W hm0 hm1)
  have HC := veil C
  have hE0 := Ext.alloc w (.cells (svC s (.slice AE n cE) (.slice AX p cX)) 24)
  have hS0 := SvAt.new w s (.slice AE n cE) (.slice AX p cX)
  clear hn hp hd0 hd1 hm0 hm1 C hcE hcX
  go_enter Try.func3, Try.ntmps3
  go_upto_region 1 with (fail)
  obtain ⟨g, hg⟩ : ∃ g, g = w.heap.size := ⟨_, rfl⟩
  rw [← hg] at hS0 ⊢
  generalize w.alloc (.cells (svC s (.slice AE n cE) (.slice AX p cX)) 24) = w0 at *
  have KU := veil (up12_calls HC.out w0)
  have HE := veil hE0
  have HS := veil hS0
  clear hE0 hS0 hg
  go_upto_region 2 with (go_at_call 6; refine KU.out.mono ?_; rintro e w1 ⟨rfl, hE1⟩)
  have HE1 := veil (HE.out.trans hE1)
  have HS1 := veil (HS.out.ext hE1)
  have c3 := HS1.out.at3
  have c4 := HS1.out.at4
  clear hE1 HE HS KU
  by_cases a1 : (300 : Int) < (n : Int)
  · have d1 : decide ((300 : Int) < (n : Int)) = true := decide_eq_true a1
    go_wp2
    go_ret
    exact ⟨rfl, HE1.out⟩
  have d1 : decide ((300 : Int) < (n : Int)) = false := decide_eq_false a1
  by_cases a2 : (300 : Int) < (p : Int)
  · have d2 : decide ((300 : Int) < (p : Int)) = true := decide_eq_true a2
    go_wp2
    go_ret
    exact ⟨rfl, HE1.out⟩
  have d2 : decide ((300 : Int) < (p : Int)) = false := decide_eq_false a2
  have hn3 : s.ex.length ≤ 300 := by have := HN.out.1; omega
  have hp3 : s.ec.length ≤ 300 := by have := HN.out.2.1; omega
  have KM := veil (fun W (h : Ext w W) => rmay12_calls _ s W (HF.out.ext h) (by omega) (by omega))
  have KQ := veil (fun W (h : Ext w W) => HC.out.may _ s W (HF.out.ext h) hn3 hp3)
  have KR := veil (fun W (h : Ext w W) => HC.out.runs _ s d W (HF.out.ext h) hn3 hp3 HN.out.2.2.1 HN.out.2.2.2)
  have KD := veil (fun W (h : Ext w W) (hm : mayV s = true) => rruns12_calls _ s d W (HF.out.ext h) hm)
  obtain ⟨M, hM⟩ : ∃ M, M = mayV s := ⟨_, rfl⟩
  obtain ⟨R, hR⟩ : ∃ R, R = runsV s d := ⟨_, rfl⟩
  rw [← hM] at KM KQ KR KD
  rw [← hR] at KR KD
  clear hn3 hp3 HC HN hM hR a1 a2
  go_upto_region 5 with (first
    | ((with_reducible refine at_slot 25 ?_); refine wpList_load_row rfl 24 _ rfl g rfl 24 (svC s (.slice AE n cE) (.slice AX p cX)) (0, 0) _ HS1.out Try.underlying24 rfl (iSv _ _ _) ?_)
    | (go_at_call 7; refine (KM.out _ HE1.out).mono ?_; rintro e w2 ⟨rfl, hE2⟩))
  have HE2 := veil (HE1.out.trans hE2)
  have HS2 := veil (HS1.out.ext hE2)
  clear hE2 HE1 HS1 c3 c4 d1 d2 KM
  have kB : ∀ b : Bool, (b != b) = false := fun b => by cases b <;> rfl
  cases M with
  | false =>
    go_upto_region 6 with (fail)
    go_upto_region 7 with (go_at_call 9; refine (KO.out _).mono ?_; rintro e w3 ⟨x, y, ev, rfl, hE3, hO⟩)
    have HE3 := veil (HE2.out.trans hE3)
    have HS3 := veil (HS2.out.ext hE3)
    have HO := veil hO
    clear hE3 hO KO KD HE2 HS2
    simp only [Bool.false_and] at KR
    go_upto_region 9 with (first
      | ((with_reducible refine at_slot 39 ?_); refine wpList_load_row rfl 24 _ rfl g rfl 24 (svC s (.slice AE n cE) (.slice AX p cX)) (0, 0) _ HS3.out Try.underlying24 rfl (iSv _ _ _) ?_)
      | (go_at_call 10; refine (KQ.out _ HE3.out).mono ?_; rintro e w4 ⟨rfl, hE4⟩; have HE4 := veil (HE3.out.trans hE4); have HS4 := veil (HS3.out.ext hE4); clear hE4)
      | ((with_reducible refine at_slot 44 ?_); refine wpl_rowG12 rfl 24 _ rfl g rfl 24 (svC s (.slice AE n cE) (.slice AX p cX)) (0, 0) _ HS4.out Try.underlying24 rfl (iSv _ _ _) ?_)
      | (go_at_call 11; refine (KR.out _ HE4.out).mono ?_; rintro e w5 ⟨rfl, hE5⟩))
    have HE5 := veil (HE4.out.trans hE5)
    clear hE5 HE3 HE4 HS3 HS4 KQ KR HF
    rcases HO.out with ⟨hb, rfl, rfl, rfl⟩ | ⟨hb0, hb1, hx, hy, rfl⟩
    · have k1 := eqErr12
      by_cases b1 : m < 0
      · have f1 : decide (m < 0) = true := decide_eq_true b1
        go_wp2
        go_ret
        exact ⟨rfl, HE5.out⟩
      · have f1 : decide (m < 0) = false := decide_eq_false b1
        have f2 : decide ((1073741824 : Int) < m) = true := decide_eq_true (by omega)
        go_wp2
        go_ret
        exact ⟨rfl, HE5.out⟩
    · have f1 : decide (m < 0) = false := decide_eq_false (by omega)
      have f2 : decide ((1073741824 : Int) < m) = false := decide_eq_false (by omega)
      have k1 := eqNil12
      have b0 : 0 ≤ x := by omega
      have b1 : x ≤ 745655 := by omega
      have b2 : 0 ≤ y := by omega
      have b3 : y < 1440 := by omega
      have e1 : 1440 * x + y = m := by omega
      have k2 : IntKind.i64.wrap (1440 * x) = 1440 * x := by rw [IntKind.wrap_i64]; omega
      have k3 : IntKind.i64.wrap m = m := by rw [IntKind.wrap_i64]; omega
      have k4 : decide ((0 : Int) ≤ y) = true := decide_eq_true b2
      have k5 : decide (y < 1440) = true := decide_eq_true b3
      clear hx hy HO
      go_wp2
      go_ret
      exact ⟨rfl, HE5.out⟩
  | true =>
    go_upto_region 6 with (first
      | ((with_reducible refine at_slot 29 ?_); refine wpl_rowG12 rfl 24 _ rfl g rfl 24 (svC s (.slice AE n cE) (.slice AX p cX)) (0, 0) _ HS2.out Try.underlying24 rfl (iSv _ _ _) ?_)
      | (go_at_call 8; refine (KD.out _ HE2.out rfl).mono ?_; rintro e wa ⟨rfl, hEa⟩))
    have HEa := veil (HE2.out.trans hEa)
    have HSa := veil (HS2.out.ext hEa)
    clear hEa HE2 HS2 KD
    go_upto_region 7 with (go_at_call 9; refine (KO.out _).mono ?_; rintro e w3 ⟨x, y, ev, rfl, hE3, hO⟩)
    have HE3 := veil (HEa.out.trans hE3)
    have HS3 := veil (HSa.out.ext hE3)
    have HO := veil hO
    clear hE3 hO KO HEa HSa
    simp only [Bool.true_and] at KR
    go_upto_region 9 with (first
      | ((with_reducible refine at_slot 39 ?_); refine wpList_load_row rfl 24 _ rfl g rfl 24 (svC s (.slice AE n cE) (.slice AX p cX)) (0, 0) _ HS3.out Try.underlying24 rfl (iSv _ _ _) ?_)
      | (go_at_call 10; refine (KQ.out _ HE3.out).mono ?_; rintro e w4 ⟨rfl, hE4⟩; have HE4 := veil (HE3.out.trans hE4); have HS4 := veil (HS3.out.ext hE4); clear hE4)
      | ((with_reducible refine at_slot 44 ?_); refine wpl_rowG12 rfl 24 _ rfl g rfl 24 (svC s (.slice AE n cE) (.slice AX p cX)) (0, 0) _ HS4.out Try.underlying24 rfl (iSv _ _ _) ?_)
      | (go_at_call 11; refine (KR.out _ HE4.out).mono ?_; rintro e w5 ⟨rfl, hE5⟩))
    have HE5 := veil (HE4.out.trans hE5)
    clear hE5 HE3 HE4 HS3 HS4 KQ KR HF
    rcases HO.out with ⟨hb, rfl, rfl, rfl⟩ | ⟨hb0, hb1, hx, hy, rfl⟩
    · have k1 := eqErr12
      by_cases b1 : m < 0
      · have f1 : decide (m < 0) = true := decide_eq_true b1
        go_wp2
        go_ret
        exact ⟨rfl, HE5.out⟩
      · have f1 : decide (m < 0) = false := decide_eq_false b1
        have f2 : decide ((1073741824 : Int) < m) = true := decide_eq_true (by omega)
        go_wp2
        go_ret
        exact ⟨rfl, HE5.out⟩
    · have f1 : decide (m < 0) = false := decide_eq_false (by omega)
      have f2 : decide ((1073741824 : Int) < m) = false := decide_eq_false (by omega)
      have k1 := eqNil12
      have b0 : 0 ≤ x := by omega
      have b1 : x ≤ 745655 := by omega
      have b2 : 0 ≤ y := by omega
      have b3 : y < 1440 := by omega
      have e1 : 1440 * x + y = m := by omega
      have k2 : IntKind.i64.wrap (1440 * x) = 1440 * x := by rw [IntKind.wrap_i64]; omega
      have k3 : IntKind.i64.wrap m = m := by rw [IntKind.wrap_i64]; omega
      have k4 : decide ((0 : Int) ≤ y) = true := decide_eq_true b2
      have k5 : decide (y < 1440) = true := decide_eq_true b3
      clear hx hy HO
      go_wp2
      go_ret
      exact ⟨rfl, HE5.out⟩
end Go.Proofs.Ytehnpfhkjamooaa
