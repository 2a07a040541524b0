/-
  clapperref12.Runs, clapperref12.Next.
-/
import Derived.Test.YtebcdhfmhnhalaaSvc
namespace Go.Proofs.Ytebcdhfmhnhalaa
open Go.RowKit

theorem half_le (w : Int) (h : 0 ≤ w) : ∀ k : Nat, w / 2 ^ k ≤ w
  | 0 => by simp
  | k + 1 => by
    rw [← half_step w h k, Int.tdiv_eq_ediv_of_nonneg (half_nonneg w h k)]
    have := half_le w h k
    have := half_nonneg w h k
    omega
theorem wrap_i64_small {x : Int} (h0 : 0 ≤ x) (h1 : x ≤ 127) : IntKind.i64.wrap x = x := by
  rw [IntKind.wrap_i64]
  omega

set_option maxRecDepth 100000 in
set_option maxHeartbeats 8000000 in
theorem rruns12_calls (v : Value) (s : Sv) (d : Int) (w : World) (hF : Vs12 w v s) (hM : mayV s = true) :
    Calls Try.prog 23 #[v, .int .i64 d] w fun e w' => e = .returned (.bool (runsV s d)) ∧ Ext w w' := by
  obtain ⟨h1, h2, _, m1, m2, m3, m4, m5⟩ := mayV_parts hM
  obtain ⟨vE, vX, rfl, hE, hX⟩ := hF
  obtain ⟨R, hR⟩ : ∃ R, R = runsV s d := ⟨_, rfl⟩
  rw [← hR]
  have KA := veil (fun W (h : Ext w W) => in12_calls vE s.ex d W (hE.ext h) (by have := daysB_100 h1; omega))
  have KB := veil (fun W (h : Ext w W) => in12_calls vX s.ec d W (hX.ext h) (by have := daysB_100 h2; omega))
  obtain ⟨wk, fr, tu, ex, ec⟩ := s
  obtain ⟨AE, cE, rfl, _, _⟩ := hE
  obtain ⟨AX, cX, rfl, _, _⟩ := hX
  simp only at KA KB m1 m2 m3 m4 m5
  obtain ⟨n, hn⟩ : ∃ n, n = ex.length := ⟨_, rfl⟩
  obtain ⟨m, hm⟩ : ∃ m, m = ec.length := ⟨_, rfl⟩
  simp only [← hn, ← hm] at KA KB ⊢
  clear hn hm
  have hE0 := Ext.alloc w (.cells (svC ⟨wk, fr, tu, ex, ec⟩ (.slice AE n cE) (.slice AX m cX)) 43)
  have hS0 := SvAt.new w ⟨wk, fr, tu, ex, ec⟩ (.slice AE n cE) (.slice AX m cX)
  unfold runsV at hR
  simp only at hR
  obtain ⟨I, hI⟩ : ∃ I, I = decide (d ∈ ex) := ⟨_, rfl⟩
  obtain ⟨J, hJ⟩ : ∃ J, J = decide (d ∈ ec) := ⟨_, rfl⟩
  rw [← hI, ← hJ] at hR
  rw [← hI] at KA
  rw [← hJ] at KB
  have HR := veil hR
  have HM := veil (And.intro m1 (And.intro m2 (And.intro m3 (And.intro m4 m5))))
  clear hM h1 h2 hR hI hJ m1 m2 m3 m4 m5
  unfold svC at hE0 ⊢
  simp only at hE0 ⊢
  go_enter Try.func23, Try.ntmps23
  go_upto_region 1 with (fail)
  unfold SvAt svC at hS0
  simp only at hS0
  obtain ⟨g, hg⟩ : ∃ g, g = w.heap.size := ⟨_, rfl⟩
  rw [← hg] at hS0 ⊢
  generalize w.alloc (.cells #[.int .i64 wk, .int .i64 fr, .int .i64 tu, .slice AE n cE, .slice AX m cX] 43) = w0 at *
  have HS := veil (show SvAt w0 g ⟨wk, fr, tu, ex, ec⟩ (.slice AE n cE) (.slice AX m cX) from hS0)
  have HE := veil hE0
  clear hE0 hS0 hg
  have c3 := HS.out.at3
  go_upto_region 2 with (go_at_call 29; refine (KA.out _ HE.out).mono ?_; rintro e w1 ⟨rfl, hE1⟩)
  have HE1 := veil (HE.out.trans hE1)
  have HS1 := veil (HS.out.ext hE1)
  clear hE1 c3 KA HS HE
  have c4 := HS1.out.at4
  go_upto_region 3 with (go_at_call 29; refine (KB.out _ HE1.out).mono ?_; rintro e w2 ⟨rfl, hE2⟩)
  have HE2 := veil (HE1.out.trans hE2)
  have HS2 := veil (HS1.out.ext hE2)
  clear hE2 c4 HS1 HE1 KB
  have c0 := HS2.out.at0
  have c1 := HS2.out.at1
  have c2 := HS2.out.at2
  simp only at c0 c1 c2
  clear HS2
  cases I with
  | true =>
    have e : R = true := HR.out
    subst e
    go_wp2
    go_ret
    exact ⟨rfl, HE2.out⟩
  | false =>
    cases J with
    | true =>
      have e : R = false := HR.out
      subst e
      go_wp2
      go_ret
      exact ⟨rfl, HE2.out⟩
    | false =>
      by_cases g1 : d < fr
      · have d1 : decide (d < fr) = true := decide_eq_true g1
        have e : R = false := HR.out.trans (by rw [decide_eq_false (p := _ ∧ _) fun h => by omega]; rfl)
        subst e
        go_wp2
        go_ret
        exact ⟨rfl, HE2.out⟩
      have d1 : decide (d < fr) = false := decide_eq_false g1
      by_cases g2 : tu ≤ d
      · have d2 : decide (tu ≤ d) = true := decide_eq_true g2
        have e : R = false := HR.out.trans (by rw [decide_eq_false (p := _ ∧ _) fun h => by omega]; rfl)
        subst e
        go_wp2
        go_ret
        exact ⟨rfl, HE2.out⟩
      have d2 : decide (tu ≤ d) = false := decide_eq_false g2
      obtain ⟨K, hK⟩ : ∃ K : Nat, K = (d % 7).toNat := ⟨_, rfl⟩
      have hd0 : 0 ≤ d := by have := HM.out.2.2.1; omega
      have hr : d.tmod 7 = (K : Int) := by rw [Int.tmod_eq_emod_of_nonneg hd0, hK]; omega
      have hK7 : K < 7 := by omega
      have e : R = decide (wk / 2 ^ K % 2 = 1) := by
        rw [HR.out, ← hK]
        have e1 : (fr ≤ d) = True := eq_true (by omega)
        have e2 : (d < tu) = True := eq_true (by omega)
        simp [e1, e2]
      have HQ := veil (And.intro e hd0)
      clear e HR hK hd0
      go_wp2
      go_loopw [7, 8] (fun u v wr => ∃ i : Nat, i ≤ K ∧ v = .int .i64 (i : Int) ∧ u = .int .i64 (wk / 2 ^ i) ∧ Ext w2 wr)
        (fun _ v _ => K - (intOf v).toNat)
      case atStart => exact ⟨0, by omega, rfl, by simp, Ext.refl _⟩
      case round =>
        obtain ⟨i, hi, rfl, rfl, hE⟩ := hrel
        have q0 := half_nonneg wk HM.out.1 i
        have q1 := half_le wk HM.out.1 i
        have q2 := HM.out.2.1
        obtain ⟨x, hx⟩ : ∃ x, x = wk / 2 ^ i := ⟨_, rfl⟩
        rw [← hx] at q0 q1 ⊢
        have hxw : IntKind.i64.wrap x = x := wrap_i64_small q0 (by omega)
        by_cases hlt : i < K
        · have hd1 : decide ((i : Int) < (K : Int)) = true := by simp; omega
          have hii : (i : Int) < (K : Int) := by omega
          have hs := half_step wk HM.out.1 i
          have q3 := half_nonneg wk HM.out.1 (i + 1)
          have q4 := half_le wk HM.out.1 (i + 1)
          rw [← hx] at hs
          obtain ⟨y, hy⟩ : ∃ y, y = wk / 2 ^ (i + 1) := ⟨_, rfl⟩
          rw [← hy] at hs q3 q4
          have hyw : IntKind.i64.wrap y = y := wrap_i64_small q3 (by omega)
          have HY := veil (And.intro hy hE)
          clear hy hE q0 q1 q2 q3 q4 hx
          go_wp2
          go_roundw
          case rel => exact ⟨i + 1, by omega, by go_num, by rw [← HY.out.1]; (try simp only [hs, hyw]), HY.out.2⟩
          case measure => simp [intOf]; omega
        · obtain rfl : i = K := by omega
          have hd1 : decide ((i : Int) < (i : Int)) = false := by simp
          have hb := rem_one x
          have e : R = decide (x % 2 = 1) := by rw [HQ.out.1, hx]
          rw [← e] at hb
          have HE9 := veil (HE2.out.trans hE)
          clear e HQ hx hE HE2
          go_wp2
          go_ret
          exact ⟨rfl, HE9.out⟩

end Go.Proofs.Ytebcdhfmhnhalaa
