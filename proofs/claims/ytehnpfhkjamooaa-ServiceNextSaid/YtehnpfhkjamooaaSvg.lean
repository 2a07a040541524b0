/-
  clapperlaw12.ServiceNext walked.
-/
import Derived.Test.YtehnpfhkjamooaaSve
namespace Go.Proofs.Ytehnpfhkjamooaa
open Go.RowKit

set_option maxRecDepth 100000 in
set_option maxHeartbeats 8000000 in
theorem snext_walk (C : Code12) (v : Value) (s : Sv) (d : Int) (w : World) (hF : Vs12 w v s) (hd0 : -9223372036854775808 ≤ d) (hd1 : d ≤ 9223372036854775807) :
    Calls Try.prog 4 #[v, .int .i64 d] w fun e w' => e = .returned (.bool true) ∧ Ext w w' := by
  have HF := veil hF
  obtain ⟨vE, vX, rfl, hE, hX⟩ := hF
  obtain ⟨AE, cE, rfl, hcE, hx⟩ := hE
  obtain ⟨AX, cX, rfl, hcX, _⟩ := hX
  obtain ⟨n, hn⟩ : ∃ n, n = s.ex.length := ⟨_, rfl⟩
  obtain ⟨p, hp⟩ : ∃ p, p = s.ec.length := ⟨_, rfl⟩
  rw [← hn] at HF hcE hx ⊢
  rw [← hp] at HF hcX ⊢
  have HN := veil (And.intro hn (And.intro hp (And.intro hd0 hd1)))
  have HX := veil hx
  have HC := veil C
  have hE0 := Ext.alloc w (.cells (svC s (.slice AE n cE) (.slice AX p cX)) 24)
  have hS0 := SvAt.new w s (.slice AE n cE) (.slice AX p cX)
  clear hn hp hd0 hd1 C hcE hcX hx
  go_enter Try.func4, Try.ntmps4
  go_upto_region 1 with (fail)
  obtain ⟨g, hg⟩ : ∃ g, g = w.heap.size := ⟨_, rfl⟩
  rw [← hg] at hS0 ⊢
  generalize w.alloc (.cells (svC s (.slice AE n cE) (.slice AX p cX)) 24) = w0 at *
  have KU := veil (up12_calls HC.out w0)
  have HE := veil hE0
  have HS := veil hS0
  clear hE0 hS0 hg
  go_upto_region 2 with (go_at_call 6; refine KU.out.mono ?_; rintro e w1 ⟨rfl, hE1⟩)
  have HE1 := veil (HE.out.trans hE1)
  have HS1 := veil (HS.out.ext hE1)
  have c3 := HS1.out.at3
  have c4 := HS1.out.at4
  clear hE1 HE HS KU
  by_cases a1 : (300 : Int) < (n : Int)
  · have d1 : decide ((300 : Int) < (n : Int)) = true := decide_eq_true a1
    go_wp2
    go_ret
    exact ⟨rfl, HE1.out⟩
  have d1 : decide ((300 : Int) < (n : Int)) = false := decide_eq_false a1
  by_cases a2 : (300 : Int) < (p : Int)
  · have d2 : decide ((300 : Int) < (p : Int)) = true := decide_eq_true a2
    go_wp2
    go_ret
    exact ⟨rfl, HE1.out⟩
  have d2 : decide ((300 : Int) < (p : Int)) = false := decide_eq_false a2
  have hn3 : s.ex.length ≤ 300 := by have := HN.out.1; omega
  have hp3 : s.ec.length ≤ 300 := by have := HN.out.2.1; omega
  have HL := veil (show n ≤ 300 by omega)
  have KM := veil (fun W (h : Ext w W) => rmay12_calls _ s W (HF.out.ext h) (by omega) (by omega))
  have KN := veil (fun W (h : Ext w W) => HC.out.next _ s d W (HF.out.ext h) hn3 hp3 HN.out.2.2.1 HN.out.2.2.2)
  have KR := veil (fun x W (h : Ext w W) => HC.out.runs _ s x W (HF.out.ext h) hn3 hp3)
  have KD := veil (fun W (h : Ext w W) (hm : mayV s = true) (h0 : 0 ≤ d) (h1 : d ≤ 2000000) => rnext12_calls _ s d W (HF.out.ext h) hm h0 h1)
  clear hn3 hp3 HC a1 a2
  go_upto_region 5 with (first
    | ((with_reducible refine at_slot 24 ?_); refine wpList_load_row rfl 24 _ rfl g rfl 24 (svC s (.slice AE n cE) (.slice AX p cX)) (0, 0) _ HS1.out Try.underlying24 rfl (iSv _ _ _) ?_)
    | (go_at_call 12; refine (KN.out _ HE1.out).mono ?_; rintro e w2 ⟨r, is, rfl, hE2, hP⟩))
  have HE2 := veil (HE1.out.trans hE2)
  have HS2 := veil (HS1.out.ext hE2)
  have HP := veil hP
  clear hE2 HE1 HS1 c3 c4 d1 d2 KN hP
  go_upto_region 6 with (first
    | ((with_reducible refine at_slot 29 ?_); refine wpList_load_row rfl 24 _ rfl g rfl 24 (svC s (.slice AE n cE) (.slice AX p cX)) (0, 0) _ HS2.out Try.underlying24 rfl (iSv _ _ _) ?_)
    | (go_at_call 7; refine (KM.out _ HE2.out).mono ?_; rintro e w3 ⟨rfl, hE3⟩))
  have HE3 := veil (HE2.out.trans hE3)
  have HS3 := veil (HS2.out.ext hE3)
  clear hE3 HE2 HS2 KM
  cases hM : mayV s with
  | false =>
    obtain ⟨rfl, rfl⟩ := nextP_no HP.out (.inl hM)
    clear HP KR KD hM HF
    go_wp2
    go_ret
    exact ⟨rfl, HE3.out⟩
  | true =>
    have HM := veil hM
    clear hM
    by_cases g0 : d < 0
    · have f0 : decide (d < 0) = true := decide_eq_true g0
      obtain ⟨rfl, rfl⟩ := nextP_no HP.out (.inr (.inl g0))
      clear HP KR KD HF g0
      go_wp2
      go_ret
      exact ⟨rfl, HE3.out⟩
    have f0 : decide (d < 0) = false := decide_eq_false g0
    by_cases g1 : 2000000 < d
    · have f1 : decide (2000000 < d) = true := decide_eq_true g1
      obtain ⟨rfl, rfl⟩ := nextP_no HP.out (.inr (.inr (by omega)))
      clear HP KR KD HF g0 g1
      go_wp2
      go_ret
      exact ⟨rfl, HE3.out⟩
    have f1 : decide (2000000 < d) = false := decide_eq_false g1
    have HD := veil (show 0 ≤ d ∧ d ≤ 2000000 by omega)
    clear g0 g1
    go_upto_region 11 with (first
      | ((with_reducible refine at_slot 57 ?_); refine wpList_load_row rfl 24 _ rfl g rfl 24 (svC s (.slice AE n cE) (.slice AX p cX)) (0, 0) _ HS3.out Try.underlying24 rfl (iSv _ _ _) ?_)
      | (go_at_call 13; refine (KD.out _ HE3.out HM.out HD.out.1 HD.out.2).mono ?_; rintro e w4 ⟨⟨k, rfl, hK⟩, hE4⟩))
    have HE4 := veil (HE3.out.trans hE4)
    have HS4 := veil (HS3.out.ext hE4)
    have HK := veil hK
    clear hE4 HE3 HS3 KD f0 f1 hK
    by_cases g2 : 0 ≤ k
    · have f2 : decide (0 ≤ k) = true := decide_eq_true g2
      obtain ⟨rfl, rfl⟩ := near_next HP.out HM.out HD.out.1 HK.out g2
      clear HP KR HF HK g2
      go_wp2
      go_ret
      exact ⟨rfl, HE4.out⟩
    have f2 : decide (0 ≤ k) = false := decide_eq_false g2
    cases is with
    | false =>
      obtain ⟨rfl, hall⟩ := none_next HP.out HM.out HD.out.1 rfl
      have HA := veil hall
      clear HP KR HK g2 hall
      go_wp2
      go_loopw [10] (fun v wr => ∃ i : Nat, i ≤ n ∧ v = .int .i64 (i : Int) ∧ Ext w4 wr) (fun v _ => n - (intOf v).toNat)
      case atStart => exact ⟨0, by omega, rfl, Ext.refl _⟩
      case round =>
        obtain ⟨i, hi, rfl, hE⟩ := hrel
        have c3 := (HS4.out.ext hE).at3
        have hn3 : n ≤ 300 := HL.out
        by_cases hlt : i < n
        · have hd1 : decide ((i : Int) < (n : Int)) = true := by simp; omega
          have hii : (i : Int) < (n : Int) := by omega
          obtain ⟨b, o, hAL, hb, hcl⟩ := HX.out.resolve_left (by omega)
          have hil : i < s.ex.length := by have := HN.out.1; omega
          have c0 := d_cell (HE4.out.trans hE) hb hcl hil
          have hlt := HA.out i hil
          obtain ⟨z, hz⟩ : ∃ z, z = s.ex.getD i 0 := ⟨_, rfl⟩
          rw [← hz] at c0 hlt
          have f3 : decide (d ≤ z) = false := decide_eq_false (by omega)
          have HE9 := veil hE
          clear hz hcl hb hE hil hlt
          subst hAL
          go_wp2
          go_roundw
          case rel => exact ⟨i + 1, by omega, by go_num, HE9.out⟩
          case measure => simp [intOf]; omega
        · obtain rfl : i = n := by omega
          have hd1 : decide ((i : Int) < (i : Int)) = false := by simp
          have HE9 := veil (HE4.out.trans hE)
          clear hE HA HX HN HF
          go_wp2
          go_ret
          exact ⟨rfl, HE9.out⟩
    | true =>
      obtain ⟨b1, b2, _, b4⟩ := far_next HP.out HD.out.1 HK.out (by omega) rfl
      have KR1 := veil (KR.out r w4 HE4.out (by have := HD.out.1; omega) (by omega))
      rw [HM.out, b4] at KR1
      simp only [Bool.true_and] at KR1
      have hdd := HD.out
      have f3 : decide (d + 3000 ≤ r) = true := decide_eq_true b1
      have hw : IntKind.i64.wrap (d + 3000) = d + 3000 := by rw [IntKind.wrap_i64]; omega
      clear HP KR HK HF b1 b2 b4 g2 HX HN hdd
      go_wp2_with (first
        | ((with_reducible refine at_slot 100 ?_); refine wpl_rowG12 rfl 24 _ rfl g rfl 24 (svC s (.slice AE n cE) (.slice AX p cX)) (0, 0) _ HS4.out Try.underlying24 rfl (iSv _ _ _) ?_)
        | (go_at_call 11; refine KR1.out.mono ?_; rintro e w5 ⟨rfl, hE5⟩))
      go_ret
      exact ⟨rfl, HE4.out.trans hE5⟩
end Go.Proofs.Ytehnpfhkjamooaa
