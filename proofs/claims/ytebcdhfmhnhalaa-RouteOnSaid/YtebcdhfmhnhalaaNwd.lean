/-
  clapperref13.May, Fair.
-/
import Derived.Test.YtebcdhfmhnhalaaNwc
namespace Go.Proofs.Ytebcdhfmhnhalaa
open Go.RowKit

theorem okC_no {k : Nat} {sv fr dp tu ar : Int} (h : ¬ (0 ≤ sv ∧ sv < (k : Int) ∧ stopB fr = true ∧ stopB tu = true ∧ 0 ≤ dp ∧ dp ≤ 1439 ∧ dp < ar ∧ ar ≤ 2879)) : ¬ okC k ⟨sv, fr, dp, tu, ar⟩ := h
theorem mayN_cs {n : Nw} {i : Nat} (hi : i < n.cs.length) (h : ¬ okC n.ss.length (n.cs.getD i noCn)) : mayN n = false := mayN_no fun hh => h (hh.2.2.2 i hi)
theorem mayN_ss {n : Nw} {i : Nat} (hi : i < n.ss.length) (h : mayV (n.ss.getD i noSv) = false) : mayN n = false := mayN_no fun hh => by rw [hh.2.2.1 i hi] at h; cases h

set_option maxRecDepth 100000 in
set_option maxHeartbeats 8000000 in
theorem rmay13_calls (v : Value) (n : Nw) (w : World) (hF : Nv13 w v n) (hf : fewN n = true) : Calls Try.prog 10 #[v] w fun e w' => e = .returned (.bool (mayN n)) ∧ Ext w w' := by
  obtain ⟨vS, vC, ws, rfl, ⟨hS, hD⟩, hss, hC⟩ := hF
  obtain ⟨R, hR⟩ : ∃ R, R = mayN n := ⟨_, rfl⟩
  rw [← hR]
  obtain ⟨AS, cS, rfl, hcS, hxS⟩ := hS
  obtain ⟨AC, cC, rfl, hcC, hxC⟩ := hC
  obtain ⟨k, hk⟩ : ∃ k, k = ws.length := ⟨_, rfl⟩
  obtain ⟨m, hm⟩ : ∃ m, m = n.cs.length := ⟨_, rfl⟩
  rw [← hk] at hxS hcS ⊢
  rw [← hm] at hxC hcC ⊢
  have hkl : n.ss.length = k := by rw [hss, List.length_map, ← hk]
  have HX := veil (And.intro hxS hD)
  have HY := veil hxC
  have HR := veil (And.intro hR (And.intro hk (And.intro hm (And.intro hss (And.intro hkl hf)))))
  have hE0 := Ext.alloc w (.cells #[.slice AS k cS, .slice AC m cC] 25)
  have hS0 := NwAt.new w (.slice AS k cS) (.slice AC m cC)
  clear hR hk hm hxS hD hss hkl hxC hf
  go_enter Try.func10, Try.ntmps10
  go_upto_region 1 with (fail)
  unfold NwAt at hS0
  obtain ⟨g, hg⟩ : ∃ g, g = w.heap.size := ⟨_, rfl⟩
  rw [← hg] at hS0 ⊢
  generalize w.alloc (.cells #[.slice AS k cS, .slice AC m cC] 25) = w0 at *
  have HS := veil (show NwAt w0 g (.slice AS k cS) (.slice AC m cC) from hS0)
  have HE := veil hE0
  clear hE0 hS0 hg
  have c0 := HS.out.at0
  have c1 := HS.out.at1
  by_cases a1 : (16 : Int) < (k : Int)
  · have d1 : decide ((16 : Int) < (k : Int)) = true := decide_eq_true a1
    have e : R = false := HR.out.1.trans (mayN_no fun h => by have := HR.out.2.2.2.2.1; omega)
    subst e
    go_wp2
    go_ret
    exact ⟨rfl, HE.out⟩
  have d1 : decide ((16 : Int) < (k : Int)) = false := decide_eq_false a1
  by_cases a2 : (100 : Int) < (m : Int)
  · have d2 : decide ((100 : Int) < (m : Int)) = true := decide_eq_true a2
    have e : R = false := HR.out.1.trans (mayN_no fun h => by have := HR.out.2.2.1; omega)
    subst e
    go_wp2
    go_ret
    exact ⟨rfl, HE.out⟩
  have d2 : decide ((100 : Int) < (m : Int)) = false := decide_eq_false a2
  have hk16 : k ≤ 16 := by omega
  have hm100 : m ≤ 100 := by omega
  go_wp2
  clear c0 c1 d1 d2 a1 a2
  go_loopw [3, 4] (fun v _ wr => ∃ i : Nat, i ≤ k ∧ v = .int .i64 (i : Int) ∧ (∀ j, j < i → mayV (n.ss.getD j noSv) = true) ∧ Ext w0 wr)
    (fun v _ _ => k - (intOf v).toNat)
  case atStart => exact ⟨0, by omega, rfl, fun j hj => by omega, Ext.refl _⟩
  case round =>
    obtain ⟨i, hi, rfl, hall, hE⟩ := hrel
    have c0 := (HS.out.ext hE).at0
    by_cases hlt : i < k
    · have hd1 : decide ((i : Int) < (k : Int)) = true := by simp; omega
      have hii : (i : Int) < (k : Int) := by omega
      obtain ⟨b, o, hAS, hb, hcl⟩ := HX.out.1.resolve_left (by omega)
      have hil : i < ws.length := by have := HR.out.2.1; omega
      have hrg := range_ext (HE.out.trans hE) hb (hcl i _ (sw_get hil))
      have hdd := HX.out.2 _ (sw_mem hil)
      obtain ⟨x, hx⟩ : ∃ x, x = ws.getD i noSw := ⟨_, rfl⟩
      rw [← hx] at hrg hdd
      have hs : n.ss.getD i noSv = x.1 := by rw [HR.out.2.2.2.1, sw_fst, ← hx]
      have hfew := (fewN_is HR.out.2.2.2.2.2).2.2 i (by have := HR.out.2.2.2.2.1; omega)
      rw [hs] at hfew
      obtain ⟨M, hM⟩ : ∃ M, M = mayV x.1 := ⟨_, rfl⟩
      have KM := veil (rmay12_calls (.agg (swC x).toArray) x.1 wr ⟨_, _, rfl, hdd.1.ext (HE.out.trans hE), hdd.2.ext (HE.out.trans hE)⟩ (by omega) (by omega))
      rw [← hM] at KM
      have HI := veil (And.intro hall (And.intro hs (And.intro hM hE)))
      have HG := veil hrg
      subst hAS
      clear hrg hx hs hM hall hE hb hcl hdd hfew
      cases M with
      | false =>
        have e : R = false := HR.out.1.trans (mayN_ss (i := i) (by have := HR.out.2.2.2.2.1; omega) (by rw [HI.out.2.1]; exact HI.out.2.2.1.symm))
        subst e
        go_wp2_with (first
          | ((with_reducible refine at_slot 30 ?_); refine wpList_load_mid rfl 43 _ rfl b _ rfl (swC x) _ HG.out Try.underlying43 rfl (iSw x) ?_)
          | (go_at_call 19; refine KM.out.mono ?_; rintro e w1 ⟨rfl, hE1⟩))
        go_ret
        exact ⟨rfl, HE.out.trans (HI.out.2.2.2.trans hE1)⟩
      | true =>
        go_wp2_with (first
          | ((with_reducible refine at_slot 30 ?_); refine wpList_load_mid rfl 43 _ rfl b _ rfl (swC x) _ HG.out Try.underlying43 rfl (iSw x) ?_)
          | (go_at_call 19; refine KM.out.mono ?_; rintro e w1 ⟨rfl, hE1⟩))
        go_roundw
        case rel =>
          refine ⟨i + 1, by omega, by go_num, fun j hj => ?_, HI.out.2.2.2.trans hE1⟩
          by_cases e : j = i
          · subst e
            rw [HI.out.2.1]
            exact HI.out.2.2.1.symm
          · exact HI.out.1 j (by omega)
        case measure => simp [intOf]; omega
    · obtain rfl : i = k := by omega
      have hd1 : decide ((i : Int) < (i : Int)) = false := by simp
      have HA := veil hall
      have HE1 := veil (HE.out.trans hE)
      have HS1 := veil (HS.out.ext hE)
      clear hall hE HS HE HX
      go_wp2
      clear hd1 c0
      go_loopw [5, 6, 7, 8] (fun v _ _ _ wq => ∃ j : Nat, j ≤ m ∧ v = .int .i64 (j : Int) ∧ (∀ q, q < j → okC i (n.cs.getD q noCn)) ∧ Ext wr wq)
        (fun v _ _ _ _ => m - (intOf v).toNat)
      case atStart => exact ⟨0, by omega, rfl, fun j hj => by omega, Ext.refl _⟩
      case round =>
        obtain ⟨j, hj, rfl, hall, hE⟩ := hrel
        have c0 := (HS1.out.ext hE).at0
        have c1 := (HS1.out.ext hE).at1
        by_cases hlt : j < m
        · have hd1 : decide ((j : Int) < (m : Int)) = true := by simp; omega
          have hjj : (j : Int) < (m : Int) := by omega
          obtain ⟨b, o, hAC, hb, hcl⟩ := HY.out.resolve_left (by omega)
          have hil : j < n.cs.length := by have := HR.out.2.2.1; omega
          have hrg := range_ext (HE1.out.trans hE) hb (hcl j _ (cn_get hil))
          obtain ⟨c, hc⟩ : ∃ c, c = n.cs.getD j noCn := ⟨_, rfl⟩
          rw [← hc] at hrg
          have hno : ¬ okC i c → R = false := fun h => HR.out.1.trans (mayN_cs hil (by rw [HR.out.2.2.2.2.1, ← hc]; exact h))
          have HI := veil (And.intro hall (And.intro hc (And.intro hno hE)))
          have HG := veil hrg
          subst hAC
          clear hrg hc hall hE hb hcl hno hil
          go_upto_region 13 with (first
            | ((with_reducible refine at_slot 45 ?_); refine wpList_load_mid rfl 39 _ rfl b _ rfl (cnC c) _ HG.out Try.underlying39 rfl (iCn c) ?_)
            | ((with_reducible refine at_none ?_); refine wpList_store_row rfl 39 _ _ rfl wr.heap.size (cnC c).toArray rfl rfl 39 _ (heap_new wr _) (iCnA c) rfl (cnA_one c) ?_; rw [World.setRow_alloc_new]))
          have hgb : CnAt (wr.alloc (.cells (cnC c).toArray 39)) wr.heap.size c := heap_new wr (.cells (cnC c).toArray 39)
          have hEW := Ext.alloc wr (.cells (cnC c).toArray 39)
          generalize wr.alloc (.cells (cnC c).toArray 39) = W at *
          generalize wr.heap.size = gf at *
          have e0 := hgb.at0
          have e1 := hgb.at1
          have e2 := hgb.at2
          have e3 := hgb.at3
          have e4 := hgb.at4
          have c0 := (HS1.out.ext (HI.out.2.2.2.trans hEW)).at0
          have HW := veil (HI.out.2.2.2.trans hEW)
          clear hgb hEW HG c1
          obtain ⟨sv, fr, dp, tu, ar⟩ := c
          simp only at e0 e1 e2 e3 e4
          have KF := veil (fun W => stop13_calls fr W)
          have KT := veil (fun W => stop13_calls tu W)
          obtain ⟨F, hF⟩ : ∃ F, F = stopB fr := ⟨_, rfl⟩
          obtain ⟨T, hT⟩ : ∃ T, T = stopB tu := ⟨_, rfl⟩
          rw [← hF] at KF
          rw [← hT] at KT
          have HFT := veil (And.intro hF hT)
          clear hF hT
          go_upto_region 14 with (go_at_call 20; refine (KF.out _).mono ?_; rintro e w1 ⟨rfl, rfl⟩)
          go_upto_region 15 with (go_at_call 20; refine (KT.out _).mono ?_; rintro e w1 ⟨rfl, rfl⟩)
          clear KF KT
          by_cases g0 : sv < 0
          · have fg0 : decide (sv < 0) = true := decide_eq_true g0
            have e : R = false := HI.out.2.2.1 (okC_no fun h => by omega)
            subst e
            go_wp2
            go_ret
            exact ⟨rfl, HE1.out.trans HW.out⟩
          have fg0 : decide (sv < 0) = false := decide_eq_false g0
          by_cases g1 : (i : Int) ≤ sv
          · have fg1 : decide ((i : Int) ≤ sv) = true := decide_eq_true g1
            have e : R = false := HI.out.2.2.1 (okC_no fun h => by omega)
            subst e
            go_wp2
            go_ret
            exact ⟨rfl, HE1.out.trans HW.out⟩
          have fg1 : decide ((i : Int) ≤ sv) = false := decide_eq_false g1
          cases F with
          | false =>
            have e : R = false := HI.out.2.2.1 (okC_no fun h => by have h1 := h.2.2.1; rw [← HFT.out.1] at h1; cases h1)
            subst e
            go_wp2
            go_ret
            exact ⟨rfl, HE1.out.trans HW.out⟩
          | true =>
            cases T with
            | false =>
              have e : R = false := HI.out.2.2.1 (okC_no fun h => by have h1 := h.2.2.2.1; rw [← HFT.out.2] at h1; cases h1)
              subst e
              go_wp2
              go_ret
              exact ⟨rfl, HE1.out.trans HW.out⟩
            | true =>
              by_cases g2 : dp < 0
              · have fg2 : decide (dp < 0) = true := decide_eq_true g2
                have e : R = false := HI.out.2.2.1 (okC_no fun h => by omega)
                subst e
                go_wp2
                go_ret
                exact ⟨rfl, HE1.out.trans HW.out⟩
              have fg2 : decide (dp < 0) = false := decide_eq_false g2
              by_cases g3 : (1439 : Int) < dp
              · have fg3 : decide ((1439 : Int) < dp) = true := decide_eq_true g3
                have e : R = false := HI.out.2.2.1 (okC_no fun h => by omega)
                subst e
                go_wp2
                go_ret
                exact ⟨rfl, HE1.out.trans HW.out⟩
              have fg3 : decide ((1439 : Int) < dp) = false := decide_eq_false g3
              by_cases g4 : ar ≤ dp
              · have fg4 : decide (ar ≤ dp) = true := decide_eq_true g4
                have e : R = false := HI.out.2.2.1 (okC_no fun h => by omega)
                subst e
                go_wp2
                go_ret
                exact ⟨rfl, HE1.out.trans HW.out⟩
              have fg4 : decide (ar ≤ dp) = false := decide_eq_false g4
              by_cases g5 : (2879 : Int) < ar
              · have fg5 : decide ((2879 : Int) < ar) = true := decide_eq_true g5
                have e : R = false := HI.out.2.2.1 (okC_no fun h => by omega)
                subst e
                go_wp2
                go_ret
                exact ⟨rfl, HE1.out.trans HW.out⟩
              have fg5 : decide ((2879 : Int) < ar) = false := decide_eq_false g5
              go_wp2
              go_roundw
              case rel =>
                refine ⟨j + 1, by omega, by go_num, fun q hq => ?_, HW.out⟩
                by_cases e : q = j
                · subst e
                  rw [← HI.out.2.1]
                  exact (show 0 ≤ sv ∧ sv < (i : Int) ∧ stopB fr = true ∧ stopB tu = true ∧ 0 ≤ dp ∧ dp ≤ 1439 ∧ dp < ar ∧ ar ≤ 2879 from ⟨by omega, by omega, HFT.out.1.symm, HFT.out.2.symm, by omega, by omega, by omega, by omega⟩)
                · exact HI.out.1 q (by omega)
              case measure => simp [intOf]; omega
        · obtain rfl : j = m := by omega
          have hd1 : decide ((j : Int) < (j : Int)) = false := by simp
          have e : R = true := HR.out.1.trans (decide_eq_true ⟨by have := HR.out.2.2.2.2.1; omega, by have := HR.out.2.2.1; omega, fun q hq => HA.out q (by have := HR.out.2.2.2.2.1; omega), fun q hq => by rw [HR.out.2.2.2.2.1]; exact hall q (by have := HR.out.2.2.1; omega)⟩)
          subst e
          clear hall
          go_wp2
          go_ret
          exact ⟨rfl, HE1.out.trans hE⟩

set_option maxRecDepth 100000 in
set_option maxHeartbeats 8000000 in
theorem rfair13_calls (v : Value) (n : Nw) (fr at_ tu till : Int) (w : World) (hF : Nv13 w v n) (hf : fewN n = true) (b0 : -9223372036854775808 ≤ at_) (b1 : at_ ≤ 9223372036854775807) (b2 : -9223372036854775808 ≤ till) (b3 : till ≤ 9223372036854775807) :
    Calls Try.prog 11 #[v, .int .i64 fr, .int .i64 at_, .int .i64 tu, .int .i64 till] w fun e w' => e = .returned (.bool (fairN n fr at_ tu till)) ∧ Ext w w' := by
  have KM := veil (fun W (h : Ext w W) => rmay13_calls v n W (hF.ext h) hf)
  obtain ⟨vS, vC, ws, rfl, ⟨hS, _⟩, _, hC⟩ := hF
  obtain ⟨AS, cS, rfl, _, _⟩ := hS
  obtain ⟨AC, cC, rfl, _, _⟩ := hC
  obtain ⟨R, hR⟩ : ∃ R, R = fairN n fr at_ tu till := ⟨_, rfl⟩
  rw [← hR]
  unfold fairN at hR
  obtain ⟨M, hM⟩ : ∃ M, M = mayN n := ⟨_, rfl⟩
  rw [← hM] at KM hR
  have KF := veil (fun W => stop13_calls fr W)
  have KT := veil (fun W => stop13_calls tu W)
  generalize stopB fr = F at *
  generalize stopB tu = T at *
  generalize ws.length = k at *
  generalize n.cs.length = m at *
  have hE0 := Ext.alloc w (.cells #[.slice AS k cS, .slice AC m cC] 25)
  have hS0 := NwAt.new w (.slice AS k cS) (.slice AC m cC)
  have HR := veil hR
  clear hM hf hR
  go_enter Try.func11, Try.ntmps11
  go_upto_region 1 with (fail)
  unfold NwAt at hS0
  obtain ⟨g, hg⟩ : ∃ g, g = w.heap.size := ⟨_, rfl⟩
  rw [← hg] at hS0 ⊢
  generalize w.alloc (.cells #[.slice AS k cS, .slice AC m cC] 25) = w0 at *
  have HS := veil (show NwAt w0 g (.slice AS k cS) (.slice AC m cC) from hS0)
  have HE := veil hE0
  clear hE0 hS0 hg
  go_upto_region 4 with (first
    | ((with_reducible refine at_slot 14 ?_); refine wpList_load_row rfl 25 _ rfl g rfl 25 #[.slice AS k cS, .slice AC m cC] (0, 0) _ HS.out Try.underlying25 rfl iNw ?_)
    | (go_at_call 10; refine (KM.out _ HE.out).mono ?_; rintro e w1 ⟨rfl, hE1⟩)
    | (go_at_call 20; refine (KF.out _).mono ?_; clear KF; rintro e w2 ⟨rfl, rfl⟩)
    | (go_at_call 20; refine (KT.out _).mono ?_; rintro e w3 ⟨rfl, rfl⟩))
  have H1 := veil (HE.out.trans hE1)
  clear KM KT HS HE hE1
  cases M with
  | false =>
    have e : R = false := HR.out
    subst e
    go_wp2
    go_ret
    exact ⟨rfl, H1.out⟩
  | true =>
  cases F with
  | false =>
    have e : R = false := HR.out
    subst e
    go_wp2
    go_ret
    exact ⟨rfl, H1.out⟩
  | true =>
  cases T with
  | false =>
    have e : R = false := HR.out
    subst e
    go_wp2
    go_ret
    exact ⟨rfl, H1.out⟩
  | true =>
  by_cases g0 : (0 : Int) ≤ at_
  rotate_left
  · have f0 : decide ((0 : Int) ≤ at_) = false := decide_eq_false g0
    have e : R = false := HR.out.trans (by rw [decide_eq_false (p := _ ∧ _) fun h => by omega]; rfl)
    subst e
    go_wp2
    go_ret
    exact ⟨rfl, H1.out⟩
  have f0 : decide ((0 : Int) ≤ at_) = true := decide_eq_true g0
  by_cases g1 : at_ ≤ 1073741824
  rotate_left
  · have f1 : decide (at_ ≤ 1073741824) = false := decide_eq_false g1
    have e : R = false := HR.out.trans (by rw [decide_eq_false (p := _ ∧ _) fun h => by omega]; rfl)
    subst e
    go_wp2
    go_ret
    exact ⟨rfl, H1.out⟩
  have f1 : decide (at_ ≤ 1073741824) = true := decide_eq_true g1
  by_cases g2 : at_ ≤ till
  rotate_left
  · have f2 : decide (at_ ≤ till) = false := decide_eq_false g2
    have e : R = false := HR.out.trans (by rw [decide_eq_false (p := _ ∧ _) fun h => by omega]; rfl)
    subst e
    go_wp2
    go_ret
    exact ⟨rfl, H1.out⟩
  have f2 : decide (at_ ≤ till) = true := decide_eq_true g2
  have hw : IntKind.i64.wrap (till - at_) = till - at_ := by rw [IntKind.wrap_i64]; omega
  by_cases g3 : till - at_ ≤ 4320
  rotate_left
  · have f3 : decide (till - at_ ≤ 4320) = false := decide_eq_false g3
    have e : R = false := HR.out.trans (by rw [decide_eq_false (p := _ ∧ _) fun h => by omega]; rfl)
    subst e
    go_wp2
    go_ret
    exact ⟨rfl, H1.out⟩
  have f3 : decide (till - at_ ≤ 4320) = true := decide_eq_true g3
  have e : R = true := HR.out.trans (by rw [decide_eq_true (p := _ ∧ _) ⟨g0, g1, g2, g3⟩]; rfl)
  subst e
  go_wp2
  go_ret
  exact ⟨rfl, H1.out⟩
end Go.Proofs.Ytebcdhfmhnhalaa
