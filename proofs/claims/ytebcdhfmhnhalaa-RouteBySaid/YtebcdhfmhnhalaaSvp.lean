/-
  service.runsByWeek, Runs, On: the landed package's own.
-/
import Derived.Test.YtebcdhfmhnhalaaSvo
namespace Go.Proofs.Ytebcdhfmhnhalaa
open Go.RowKit

/-- It runs by its weekdays. -/
def weekV (s : Sv) (d : Int) : Bool := !decide (d ∈ s.ec) && decide (s.fr ≤ d ∧ d < s.to ∧ s.wk / 2 ^ (d % 7).toNat % 2 = 1)
theorem runsV_w (s : Sv) (d : Int) : runsV s d = (decide (d ∈ s.ex) || weekV s d) := rfl
theorem weekV_no {s : Sv} {d : Int} (h : ¬ (s.fr ≤ d ∧ d < s.to ∧ s.wk / 2 ^ (d % 7).toNat % 2 = 1)) : weekV s d = false := by unfold weekV; rw [decide_eq_false h, Bool.and_false]
theorem weekV_yes {s : Sv} {d : Int} (h : s.fr ≤ d ∧ d < s.to ∧ s.wk / 2 ^ (d % 7).toNat % 2 = 1) : weekV s d = !decide (d ∈ s.ec) := by unfold weekV; rw [decide_eq_true h, Bool.and_true]

theorem and_bit : ∀ n : Fin 128, bits BinOp.and IntKind.i64 (n.val : Int) 1 = (n.val : Int) % 2 := by decide +kernel
theorem week_bit {wk : Int} {K : Nat} (h0 : 0 ≤ wk) (h1 : wk ≤ 127) : bits BinOp.and IntKind.i64 (wk / 2 ^ K) 1 = wk / 2 ^ K % 2 := by
  have a := half_nonneg wk h0 K
  have b := half_le wk h0 K
  have := and_bit ⟨(wk / 2 ^ K).toNat, by omega⟩
  simpa [Int.toNat_of_nonneg a] using this

set_option maxRecDepth 100000 in
set_option maxHeartbeats 8000000 in
theorem runsByWeek_calls (v : Value) (s : Sv) (d : Int) (w : World) (hF : Vs12 w v s) (hM : mayV s = true) :
    Calls Try.prog 39 #[v, .int .i64 d] w fun e w' => e = .returned (.bool (weekV s d)) ∧ Ext w w' := by
  obtain ⟨h1, h2, -, m1, m2, m3, m4, m5⟩ := mayV_parts hM
  obtain ⟨vE, vX, rfl, hE, hX⟩ := hF
  obtain ⟨R, hR⟩ : ∃ R, R = weekV s d := ⟨_, rfl⟩
  rw [← hR]
  have KB := veil (fun W (h : Ext w W) => has12_calls vX s.ec d W (hX.ext h) (by have := daysB_100 h2; omega) (rise_of h2))
  obtain ⟨AE, cE, rfl, -, -⟩ := hE
  obtain ⟨AX, cX, rfl, -, -⟩ := hX
  have hE0 := Ext.alloc w (.cells (svC s (.slice AE s.ex.length cE) (.slice AX s.ec.length cX)) 43)
  have hS0 := SvAt.new w s (.slice AE s.ex.length cE) (.slice AX s.ec.length cX)
  have HR := veil hR
  have HM := veil (And.intro m1 (And.intro m2 (And.intro m3 (And.intro m4 m5))))
  clear hR hM h1 h2 m1 m2 m3 m4 m5
  obtain ⟨wk, fr, tu, ex, ec⟩ := s
  simp only at HR HM KB hE0 hS0 ⊢
  obtain ⟨n, hn⟩ : ∃ n, n = ex.length := ⟨_, rfl⟩
  obtain ⟨m, hm⟩ : ∃ m, m = ec.length := ⟨_, rfl⟩
  rw [← hm] at KB
  rw [← hn, ← hm] at hE0 hS0
  simp only [← hn, ← hm]
  clear hn hm
  unfold svC at hE0 ⊢
  simp only at hE0 ⊢
  obtain ⟨J, hJ⟩ : ∃ J, J = decide (d ∈ ec) := ⟨_, rfl⟩
  rw [← hJ] at KB
  have HJ := veil hJ
  clear hJ
  go_enter Try.func39, Try.ntmps39
  go_upto_region 1 with (fail)
  unfold SvAt svC at hS0
  simp only at hS0
  obtain ⟨g, hg⟩ : ∃ g, g = w.heap.size := ⟨_, rfl⟩
  rw [← hg] at hS0 ⊢
  generalize w.alloc (.cells #[.int .i64 wk, .int .i64 fr, .int .i64 tu, .slice AE n cE, .slice AX m cX] 43) = w0 at *
  have HS := veil (show SvAt w0 g ⟨wk, fr, tu, ex, ec⟩ (.slice AE n cE) (.slice AX m cX) from hS0)
  have HE := veil hE0
  clear hE0 hS0 hg
  have c0 := HS.out.at0
  have c1 := HS.out.at1
  have c2 := HS.out.at2
  have c4 := HS.out.at4
  simp only at c0 c1 c2
  by_cases g0 : fr ≤ d
  rotate_left
  · have f0 : decide (fr ≤ d) = false := decide_eq_false g0
    obtain rfl : R = false := HR.out.trans (weekV_no fun h => g0 h.1)
    go_wp2
    go_ret
    exact ⟨rfl, HE.out⟩
  have f0 : decide (fr ≤ d) = true := decide_eq_true g0
  by_cases g1 : d < tu
  rotate_left
  · have f1 : decide (d < tu) = false := decide_eq_false g1
    obtain rfl : R = false := HR.out.trans (weekV_no fun h => g1 h.2.1)
    go_wp2
    go_ret
    exact ⟨rfl, HE.out⟩
  have f1 : decide (d < tu) = true := decide_eq_true g1
  obtain ⟨K, hK⟩ : ∃ K : Nat, K = (d % 7).toNat := ⟨_, rfl⟩
  have hd0 : 0 ≤ d := by have := HM.out.2.2.1; omega
  have hr : d.tmod 7 = (K : Int) := by rw [Int.tmod_eq_emod_of_nonneg hd0, hK]; omega
  have hK7 : (K : Int) < 7 := by omega
  have HG := veil (And.intro g0 (And.intro g1 (And.intro hK hd0)))
  clear g0 g1 hK hd0
  have HB := veil (week_bit (K := K) HM.out.1 HM.out.2.1)
  by_cases g2 : bits BinOp.and IntKind.i64 (wk / 2 ^ K) 1 = 1
  rotate_left
  · have f2 : (bits BinOp.and IntKind.i64 (wk / 2 ^ K) 1 == 1) = false := by simpa using g2
    obtain rfl : R = false := HR.out.trans (weekV_no fun h => g2 (by rw [HB.out]; simp only [← HG.out.2.2.1] at h; exact h.2.2))
    clear g2
    go_wp2
    go_ret
    exact ⟨rfl, HE.out⟩
  have f2 : (bits BinOp.and IntKind.i64 (wk / 2 ^ K) 1 == 1) = true := by simpa using g2
  obtain rfl : R = !J := HR.out.trans ((weekV_yes ⟨HG.out.1, HG.out.2.1, by show wk / 2 ^ (d % 7).toNat % 2 = 1; rw [← HG.out.2.2.1, ← HB.out]; exact g2⟩).trans (by rw [HJ.out]))
  clear g2
  go_wp2_with (go_at_call 38; with_reducible refine (KB.out _ HE.out).mono ?_; rintro e w1 ⟨rfl, rfl⟩)
  go_ret
  exact ⟨rfl, HE.out⟩

set_option maxRecDepth 100000 in
set_option maxHeartbeats 4000000 in
theorem on12_calls (m : Int) (w : World) (_ : -9223372036854775808 ≤ m) (_ : m ≤ 9223372036854775807) :
    Calls Try.prog 15 #[.int .i64 m] w fun e w' => ∃ x y ev, e = .returned (.tuple #[.int .i64 x, .int .i64 y, ev]) ∧ Ext w w' ∧ OnP m x y ev := by
  by_cases g0 : m < 0
  · have f0 : decide (m < 0) = true := decide_eq_true g0
    go_enter Try.func15, Try.ntmps15
    go_wp2
    refine bodyPost_ret (results_tmp3 rfl _ _ _) rfl ⟨0, 0, _, rfl, Ext.refl _, .inl ⟨.inl g0, rfl, rfl, rfl⟩⟩
  have f0 : decide (m < 0) = false := decide_eq_false g0
  by_cases g1 : 1073741824 < m
  · have f1 : decide (1073741824 < m) = true := decide_eq_true g1
    go_enter Try.func15, Try.ntmps15
    go_wp2
    refine bodyPost_ret (results_tmp3 rfl _ _ _) rfl ⟨0, 0, _, rfl, Ext.refl _, .inl ⟨.inr g1, rfl, rfl, rfl⟩⟩
  have f1 : decide (1073741824 < m) = false := decide_eq_false g1
  obtain ⟨x, hx⟩ : ∃ x, x = m / 1440 := ⟨_, rfl⟩
  obtain ⟨y, hy⟩ : ∃ y, y = m % 1440 := ⟨_, rfl⟩
  have h1 : m.tdiv 1440 = x := by rw [Int.tdiv_eq_ediv_of_nonneg (by omega), hx]
  have h2 : m.tmod 1440 = y := by rw [Int.tmod_eq_emod_of_nonneg (by omega), hy]
  have hx0 : 0 ≤ x := by omega
  have hx1 : x ≤ 1073741824 := by omega
  have HV := veil (And.intro g0 (And.intro g1 (And.intro hx hy)))
  clear hx hy g0 g1
  go_enter Try.func15, Try.ntmps15
  go_wp2
  refine bodyPost_ret (results_tmp3 rfl _ _ _) rfl ⟨x, y, _, rfl, Ext.refl _, .inr ⟨by have := HV.out.1; omega, by have := HV.out.2.1; omega, HV.out.2.2.1, HV.out.2.2.2, rfl⟩⟩
end Go.Proofs.Ytebcdhfmhnhalaa
