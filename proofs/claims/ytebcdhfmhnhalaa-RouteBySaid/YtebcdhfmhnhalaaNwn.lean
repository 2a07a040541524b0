/-
  route.isStop, mayConn, mayConns, mayServices, May: the landed package's own.
-/
import Derived.Test.YtebcdhfmhnhalaaSvl
import Derived.Test.YtebcdhfmhnhalaaNwf
import Derived.Test.YtebcdhfmhnhalaaNwm
namespace Go.Proofs.Ytebcdhfmhnhalaa
open Go.RowKit

set_option maxRecDepth 100000 in
theorem isStop_calls (x : Int) (w : World) : Calls Try.prog 16 #[.int .i64 x] w fun e w' => e = .returned (.bool (stopB x)) ∧ w' = w := by
  unfold stopB
  by_cases g0 : 0 ≤ x
  · have d0 : decide (0 ≤ x) = true := decide_eq_true g0
    rw [d0, Bool.true_and]
    go_enter Try.func16, Try.ntmps16
    go_wp2
    go_ret
    exact ⟨rfl, rfl⟩
  · have d0 : decide (0 ≤ x) = false := decide_eq_false g0
    rw [d0, Bool.false_and]
    go_enter Try.func16, Try.ntmps16
    go_wp2
    go_ret
    exact ⟨rfl, rfl⟩

theorem okC_bad {k : Nat} {sv fr dp tu ar : Int} (h : ¬ (0 ≤ sv ∧ sv < (k : Int) ∧ stopB fr = true ∧ stopB tu = true ∧ 0 ≤ dp ∧ dp ≤ 1439 ∧ dp < ar ∧ ar ≤ 2879)) : decide (okC k ⟨sv, fr, dp, tu, ar⟩) = false := decide_eq_false h
theorem okC_good {k : Nat} {sv fr dp tu ar : Int} (h : 0 ≤ sv ∧ sv < (k : Int) ∧ stopB fr = true ∧ stopB tu = true ∧ 0 ≤ dp ∧ dp ≤ 1439 ∧ dp < ar ∧ ar ≤ 2879) : decide (okC k ⟨sv, fr, dp, tu, ar⟩) = true := decide_eq_true h

set_option maxRecDepth 100000 in
set_option maxHeartbeats 8000000 in
theorem mayConn_calls (c : Cn) (k : Nat) (w : World) : Calls Try.prog 31 #[.agg (cnC c).toArray, .int .i64 (k : Int)] w fun e w' => e = .returned (.bool (decide (okC k c))) ∧ Ext w w' := by
  obtain ⟨R, hR⟩ : ∃ R, R = decide (okC k c) := ⟨_, rfl⟩
  rw [← hR]
  have hgb : CnAt (w.alloc (.cells (cnC c).toArray 39)) w.heap.size c := heap_new w (.cells (cnC c).toArray 39)
  have hEW := Ext.alloc w (.cells (cnC c).toArray 39)
  obtain ⟨sv, fr, dp, tu, ar⟩ := c
  have HR := veil hR
  have KF := veil (fun W => isStop_calls fr W)
  have KT := veil (fun W => isStop_calls tu W)
  obtain ⟨F, hF⟩ : ∃ F, F = stopB fr := ⟨_, rfl⟩
  obtain ⟨T, hT⟩ : ∃ T, T = stopB tu := ⟨_, rfl⟩
  rw [← hF] at KF
  rw [← hT] at KT
  have HFT := veil (And.intro hF hT)
  clear hR hF hT
  go_enter Try.func31, Try.ntmps31
  go_upto_region 1 with (fail)
  have e0 := hgb.at0
  have e1 := hgb.at1
  have e2 := hgb.at2
  have e3 := hgb.at3
  have e4 := hgb.at4
  simp only [cnC] at e0 e1 e2 e3 e4 hgb hEW ⊢
  have HW := veil hEW
  clear hgb hEW
  generalize hW : w.alloc (.cells #[.int .i64 sv, .int .i64 fr, .int .i64 dp, .int .i64 tu, .int .i64 ar] 39) = W at *
  clear hW
  generalize w.heap.size = gf at *
  by_cases g0 : 0 ≤ sv
  rotate_left
  · have f0 : decide (0 ≤ sv) = false := decide_eq_false g0
    obtain rfl : R = false := HR.out.trans (okC_bad fun h => by omega)
    go_wp2
    go_ret
    exact ⟨rfl, HW.out⟩
  have f0 : decide (0 ≤ sv) = true := decide_eq_true g0
  by_cases g1 : sv < (k : Int)
  rotate_left
  · have f1 : decide (sv < (k : Int)) = false := decide_eq_false g1
    obtain rfl : R = false := HR.out.trans (okC_bad fun h => by omega)
    go_wp2
    go_ret
    exact ⟨rfl, HW.out⟩
  have f1 : decide (sv < (k : Int)) = true := decide_eq_true g1
  cases F with
  | false =>
    obtain rfl : R = false := HR.out.trans (okC_bad fun h => by have h1 := h.2.2.1; rw [← HFT.out.1] at h1; cases h1)
    go_wp2_with (go_at_call 16; refine (KF.out _).mono ?_; rintro e w1 ⟨rfl, rfl⟩)
    go_ret
    exact ⟨rfl, HW.out⟩
  | true =>
    cases T with
    | false =>
      obtain rfl : R = false := HR.out.trans (okC_bad fun h => by have h1 := h.2.2.2.1; rw [← HFT.out.2] at h1; cases h1)
      go_wp2_with (first
        | (go_at_call 16; with_reducible refine (KF.out _).mono ?_; rintro e w1 ⟨rfl, rfl⟩)
        | (go_at_call 16; with_reducible refine (KT.out _).mono ?_; rintro e w1 ⟨rfl, rfl⟩))
      go_ret
      exact ⟨rfl, HW.out⟩
    | true =>
      by_cases g2 : 0 ≤ dp
      rotate_left
      · have f2 : decide (0 ≤ dp) = false := decide_eq_false g2
        obtain rfl : R = false := HR.out.trans (okC_bad fun h => by omega)
        go_wp2_with (first
          | (go_at_call 16; with_reducible refine (KF.out _).mono ?_; rintro e w1 ⟨rfl, rfl⟩)
          | (go_at_call 16; with_reducible refine (KT.out _).mono ?_; rintro e w1 ⟨rfl, rfl⟩))
        go_ret
        exact ⟨rfl, HW.out⟩
      have f2 : decide (0 ≤ dp) = true := decide_eq_true g2
      by_cases g3 : dp < 1440
      rotate_left
      · have f3 : decide (dp < 1440) = false := decide_eq_false g3
        obtain rfl : R = false := HR.out.trans (okC_bad fun h => by omega)
        go_wp2_with (first
          | (go_at_call 16; with_reducible refine (KF.out _).mono ?_; rintro e w1 ⟨rfl, rfl⟩)
          | (go_at_call 16; with_reducible refine (KT.out _).mono ?_; rintro e w1 ⟨rfl, rfl⟩))
        go_ret
        exact ⟨rfl, HW.out⟩
      have f3 : decide (dp < 1440) = true := decide_eq_true g3
      by_cases g4 : dp < ar
      rotate_left
      · have f4 : decide (dp < ar) = false := decide_eq_false g4
        obtain rfl : R = false := HR.out.trans (okC_bad fun h => by omega)
        go_wp2_with (first
          | (go_at_call 16; with_reducible refine (KF.out _).mono ?_; rintro e w1 ⟨rfl, rfl⟩)
          | (go_at_call 16; with_reducible refine (KT.out _).mono ?_; rintro e w1 ⟨rfl, rfl⟩))
        go_ret
        exact ⟨rfl, HW.out⟩
      have f4 : decide (dp < ar) = true := decide_eq_true g4
      have f5 : decide (ar ≤ 2879) = R := by
        rw [HR.out]
        by_cases g5 : ar ≤ 2879
        · rw [decide_eq_true g5, okC_good ⟨g0, g1, HFT.out.1.symm, HFT.out.2.symm, g2, by omega, g4, g5⟩]
        · rw [decide_eq_false g5, okC_bad fun h => by omega]
      go_wp2_with (first
        | (go_at_call 16; with_reducible refine (KF.out _).mono ?_; rintro e w1 ⟨rfl, rfl⟩)
        | (go_at_call 16; with_reducible refine (KT.out _).mono ?_; rintro e w1 ⟨rfl, rfl⟩))
      go_ret
      exact ⟨rfl, HW.out⟩

theorem swA_one {w : World} {x : Sw} (h1 : Ds w x.2.1 x.1.ex) (h2 : Ds w x.2.2 x.1.ec) : (swC x).toArray.all (·.oneCell') = true := by
  obtain ⟨A, c, e, _, _⟩ := h1
  obtain ⟨A', c', e', _, _⟩ := h2
  unfold swC
  rw [e, e']
  simp [Value.oneCell']
theorem hzSv (W : World) : (Instr.alloc 43 true (.tuple #[])).run Try.prog W = .ok (ptrTo W.heap.size) (W.alloc (.cells #[.int .i64 0, .int .i64 0, .int .i64 0, .slice none 0 0, .slice none 0 0] 43)) := by simp [Instr.alloc, go_sem]
theorem hzCn (W : World) : (Instr.alloc 39 true (.tuple #[])).run Try.prog W = .ok (ptrTo W.heap.size) (W.alloc (.cells #[.int .i64 0, .int .i64 0, .int .i64 0, .int .i64 0, .int .i64 0] 39)) := by simp [Instr.alloc, go_sem]

/-- All services may be; all rides may be. -/
def ssOk (ss : List Sv) : Bool := decide (ss.length ≤ 16 ∧ ∀ i, i < ss.length → mayV (ss.getD i noSv) = true)
def csOk (cs : List Cn) (k : Nat) : Bool := decide (cs.length ≤ 100 ∧ ∀ i, i < cs.length → okC k (cs.getD i noCn))
theorem ssOk_no {ss : List Sv} (h : ¬ (ss.length ≤ 16 ∧ ∀ i, i < ss.length → mayV (ss.getD i noSv) = true)) : ssOk ss = false := decide_eq_false h
theorem csOk_no {cs : List Cn} {k : Nat} (h : ¬ (cs.length ≤ 100 ∧ ∀ i, i < cs.length → okC k (cs.getD i noCn))) : csOk cs k = false := decide_eq_false h
theorem mayN_and (n : Nw) : mayN n = (ssOk n.ss && csOk n.cs n.ss.length) := by
  unfold mayN ssOk csOk
  rw [← Bool.decide_and]
  congr 1
  apply propext
  constructor
  · rintro ⟨h1, h2, h3, h4⟩; exact ⟨⟨h1, h3⟩, h2, h4⟩
  · rintro ⟨⟨h1, h3⟩, h2, h4⟩; exact ⟨h1, h2, h3, h4⟩

set_option maxRecDepth 100000 in
set_option maxHeartbeats 8000000 in
theorem mayServices_calls (v : Value) (ss : List Sv) (ws : List Sw) (w : World) (hW : Ws13 w v ws) (hss : ss = ws.map (·.1)) (hfew : ∀ i, i < ss.length → (ss.getD i noSv).ex.length ≤ 300 ∧ (ss.getD i noSv).ec.length ≤ 300) :
    Calls Try.prog 21 #[v] w fun e w' => e = .returned (.bool (ssOk ss)) ∧ Ext w w' := by
  obtain ⟨⟨AS, cS, rfl, hcS, hxS⟩, hD⟩ := hW
  obtain ⟨R, hR⟩ : ∃ R, R = ssOk ss := ⟨_, rfl⟩
  rw [← hR]
  obtain ⟨k, hk⟩ : ∃ k, k = ws.length := ⟨_, rfl⟩
  rw [← hk] at hxS hcS ⊢
  have hkl : ss.length = k := by rw [hss, List.length_map, ← hk]
  have HX := veil (And.intro hxS hD)
  have HR := veil (And.intro hR (And.intro hk (And.intro hss (And.intro hkl hfew))))
  clear hR hk hxS hD hss hkl hfew
  by_cases a1 : (16 : Int) < (k : Int)
  · have d1 : decide ((16 : Int) < (k : Int)) = true := decide_eq_true a1
    obtain rfl : R = false := HR.out.1.trans (ssOk_no fun h => by have := HR.out.2.2.2.1; omega)
    clear a1
    go_enter Try.func21, Try.ntmps21
    go_wp2
    go_ret
    exact ⟨rfl, Ext.refl _⟩
  have d1 : decide ((16 : Int) < (k : Int)) = false := decide_eq_false a1
  have hk16 : k ≤ 16 := by omega
  clear a1
  go_enter Try.func21, Try.ntmps21
  go_wp2
  clear d1
  go_loopw [10] (fun v wr => ∃ i : Nat, i ≤ k ∧ v = .int .i64 (i : Int) ∧ (∀ j, j < i → mayV (ss.getD j noSv) = true) ∧ Ext w wr)
    (fun v _ => k - (intOf v).toNat)
  case atStart => exact ⟨0, by omega, rfl, fun j hj => by omega, Ext.refl _⟩
  case round =>
    obtain ⟨i, hi, rfl, hall, hE⟩ := hrel
    by_cases hlt : i < k
    · have hd1 : decide ((i : Int) < (k : Int)) = true := by simp; omega
      have hii : (i : Int) < (k : Int) := by omega
      obtain ⟨b, o, hAS, hb, hcl⟩ := HX.out.1.resolve_left (by omega)
      have hil : i < ws.length := by have := HR.out.2.1; omega
      have hrg := range_ext hE hb (hcl i _ (sw_get hil))
      have hdd := HX.out.2 _ (sw_mem hil)
      obtain ⟨x, hx⟩ : ∃ x, x = ws.getD i noSw := ⟨_, rfl⟩
      rw [← hx] at hrg hdd
      have hdd0 := hdd
      have hs : ss.getD i noSv = x.1 := by rw [HR.out.2.2.1, sw_fst, ← hx]
      have hfew := HR.out.2.2.2.2 i (by have := HR.out.2.2.2.1; omega)
      rw [hs] at hfew
      obtain ⟨M, hM⟩ : ∃ M, M = mayV x.1 := ⟨_, rfl⟩
      have KM := veil (fun W (h : Ext wr W) => may12_calls (.agg (swC x).toArray) x.1 W ⟨_, _, rfl, hdd.1.ext (hE.trans h), hdd.2.ext (hE.trans h)⟩ (by omega) (by omega))
      rw [← hM] at KM
      have HI := veil (And.intro hall (And.intro hs (And.intro hM hE)))
      have HG := veil hrg
      subst hAS
      clear hrg hx hs hM hall hE hb hcl hdd hfew hil
      obtain ⟨y, hy⟩ : ∃ y, y = (swC x).toArray := ⟨_, rfl⟩
      have hy1 : y.all (·.oneCell') = true := by rw [hy]; exact swA_one hdd0.1 hdd0.2
      have hy5 : 5 = y.size := by rw [hy]; rfl
      have iy : (Try.prog.info? 43).map (·.size) = some y.size := by rw [hy]; exact iSw x
      have HGy := veil (show wr.rangeAt b (o + i * 5) y.toList by rw [hy]; exact HG.out)
      rw [← hy] at KM
      have HY := veil (And.intro hy1 (And.intro iy hy5))
      clear hy hy1 iy HG hy5 hdd0
      go_upto_region 6 with (first
        | ((with_reducible refine at_slot 13 ?_); refine wpList_load_mid rfl 43 _ rfl b _ rfl y.toList _ HGy.out Try.underlying43 rfl HY.out.2.1 ?_)
        | ((with_reducible refine at_slot 4 ?_); refine wpl_var _ _ rfl rfl rfl rfl rfl rfl hzSv (fun _ => rfl) (fun _ => rfl) HY.out.2.1 HY.out.2.2 HY.out.1 ?_; intro gf W hgf hW hEW))
      have HGB := veil hW
      have HEW := veil hEW
      clear hW hEW HGy hgf
      cases M with
      | false =>
        obtain rfl : R = false := HR.out.1.trans (ssOk_no fun h => by
          have h1 := h.2 i (by have := HR.out.2.2.2.1; omega)
          rw [HI.out.2.1, ← HI.out.2.2.1] at h1
          cases h1)
        go_wp2_with (first
          | ((with_reducible refine at_slot 14 ?_); refine wpList_load_row rfl 43 _ rfl gf rfl 43 y (0, 0) _ HGB.out Try.underlying43 rfl HY.out.2.1 ?_)
          | (go_at_call 30; refine (KM.out _ HEW.out).mono ?_; rintro e w1 ⟨rfl, hE1⟩))
        go_ret
        exact ⟨rfl, HI.out.2.2.2.trans (HEW.out.trans hE1)⟩
      | true =>
        go_wp2_with (first
          | ((with_reducible refine at_slot 14 ?_); refine wpList_load_row rfl 43 _ rfl gf rfl 43 y (0, 0) _ HGB.out Try.underlying43 rfl HY.out.2.1 ?_)
          | (go_at_call 30; refine (KM.out _ HEW.out).mono ?_; rintro e w1 ⟨rfl, hE1⟩))
        go_roundw
        case rel =>
          refine ⟨i + 1, by omega, by go_num, fun j hj => ?_, HI.out.2.2.2.trans (HEW.out.trans hE1)⟩
          by_cases e : j = i
          · subst e
            rw [HI.out.2.1]
            exact HI.out.2.2.1.symm
          · exact HI.out.1 j (by omega)
        case measure => simp [intOf]; omega
    · obtain rfl : i = k := by omega
      have hd1 : decide ((i : Int) < (i : Int)) = false := by simp
      obtain rfl : R = true := HR.out.1.trans (decide_eq_true ⟨by have := HR.out.2.2.2.1; omega, fun j hj => hall j (by have := HR.out.2.2.2.1; omega)⟩)
      clear hall
      go_wp2
      go_ret
      exact ⟨rfl, hE⟩

set_option maxRecDepth 100000 in
set_option maxHeartbeats 8000000 in
theorem mayConns_calls (v : Value) (cs : List Cn) (k : Nat) (w : World) (hC : Cs13 w v cs) :
    Calls Try.prog 22 #[v, .int .i64 (k : Int)] w fun e w' => e = .returned (.bool (csOk cs k)) ∧ Ext w w' := by
  obtain ⟨AC, cC, rfl, hcC, hxC⟩ := hC
  obtain ⟨R, hR⟩ : ∃ R, R = csOk cs k := ⟨_, rfl⟩
  rw [← hR]
  obtain ⟨m, hm⟩ : ∃ m, m = cs.length := ⟨_, rfl⟩
  rw [← hm] at hxC hcC ⊢
  have HX := veil hxC
  have HR := veil (And.intro hR hm)
  clear hR hm hxC
  by_cases a1 : (100 : Int) < (m : Int)
  · have d1 : decide ((100 : Int) < (m : Int)) = true := decide_eq_true a1
    obtain rfl : R = false := HR.out.1.trans (csOk_no fun h => by have := HR.out.2; omega)
    clear a1
    go_enter Try.func22, Try.ntmps22
    go_wp2
    go_ret
    exact ⟨rfl, Ext.refl _⟩
  have d1 : decide ((100 : Int) < (m : Int)) = false := decide_eq_false a1
  have hm100 : m ≤ 100 := by omega
  clear a1
  go_enter Try.func22, Try.ntmps22
  go_wp2
  clear d1
  go_loopw [12] (fun v wr => ∃ i : Nat, i ≤ m ∧ v = .int .i64 (i : Int) ∧ (∀ j, j < i → okC k (cs.getD j noCn)) ∧ Ext w wr)
    (fun v _ => m - (intOf v).toNat)
  case atStart => exact ⟨0, by omega, rfl, fun j hj => by omega, Ext.refl _⟩
  case round =>
    obtain ⟨i, hi, rfl, hall, hE⟩ := hrel
    by_cases hlt : i < m
    · have hd1 : decide ((i : Int) < (m : Int)) = true := by simp; omega
      have hii : (i : Int) < (m : Int) := by omega
      obtain ⟨b, o, hAC, hb, hcl⟩ := HX.out.resolve_left (by omega)
      have hil : i < cs.length := by have := HR.out.2; omega
      have hrg := range_ext hE hb (hcl i _ (cn_get hil))
      obtain ⟨c, hc⟩ : ∃ c, c = cs.getD i noCn := ⟨_, rfl⟩
      rw [← hc] at hrg
      obtain ⟨M, hM⟩ : ∃ M, M = decide (okC k c) := ⟨_, rfl⟩
      have KM := veil (fun W => mayConn_calls c k W)
      rw [← hM] at KM
      have HI := veil (And.intro hall (And.intro hc (And.intro hM hE)))
      have HG := veil hrg
      subst hAC
      clear hrg hc hM hall hE hb hcl hil
      obtain ⟨y, hy⟩ : ∃ y, y = (cnC c).toArray := ⟨_, rfl⟩
      have hy1 : y.all (·.oneCell') = true := by rw [hy]; exact cnA_one c
      have hy5 : 5 = y.size := by rw [hy]; rfl
      have iy : (Try.prog.info? 39).map (·.size) = some y.size := by rw [hy]; exact iCnA c
      have HGy := veil (show wr.rangeAt b (o + i * 5) y.toList by rw [hy]; exact HG.out)
      rw [← hy] at KM
      have HY := veil (And.intro hy1 (And.intro iy hy5))
      clear hy hy1 iy HG hy5
      go_upto_region 6 with (first
        | ((with_reducible refine at_slot 15 ?_); refine wpList_load_mid rfl 39 _ rfl b _ rfl y.toList _ HGy.out Try.underlying39 rfl HY.out.2.1 ?_)
        | ((with_reducible refine at_slot 6 ?_); refine wpl_var _ _ rfl rfl rfl rfl rfl rfl hzCn (fun _ => rfl) (fun _ => rfl) HY.out.2.1 HY.out.2.2 HY.out.1 ?_; intro gf W hgf hW hEW))
      have HGB := veil hW
      have HEW := veil hEW
      clear hW hEW HGy hgf
      cases M with
      | false =>
        obtain rfl : R = false := HR.out.1.trans (csOk_no fun h => by
          have h1 := decide_eq_true (h.2 i (by have := HR.out.2; omega))
          rw [← HI.out.2.1, ← HI.out.2.2.1] at h1
          cases h1)
        go_wp2_with (first
          | ((with_reducible refine at_slot 16 ?_); refine wpList_load_row rfl 39 _ rfl gf rfl 39 y (0, 0) _ HGB.out Try.underlying39 rfl HY.out.2.1 ?_)
          | (go_at_call 31; refine (KM.out _).mono ?_; rintro e w1 ⟨rfl, hE1⟩))
        go_ret
        exact ⟨rfl, HI.out.2.2.2.trans (HEW.out.trans hE1)⟩
      | true =>
        go_wp2_with (first
          | ((with_reducible refine at_slot 16 ?_); refine wpList_load_row rfl 39 _ rfl gf rfl 39 y (0, 0) _ HGB.out Try.underlying39 rfl HY.out.2.1 ?_)
          | (go_at_call 31; refine (KM.out _).mono ?_; rintro e w1 ⟨rfl, hE1⟩))
        go_roundw
        case rel =>
          refine ⟨i + 1, by omega, by go_num, fun j hj => ?_, HI.out.2.2.2.trans (HEW.out.trans hE1)⟩
          by_cases e : j = i
          · subst e
            rw [← HI.out.2.1]
            exact of_decide_eq_true HI.out.2.2.1.symm
          · exact HI.out.1 j (by omega)
        case measure => simp [intOf]; omega
    · obtain rfl : i = m := by omega
      have hd1 : decide ((i : Int) < (i : Int)) = false := by simp
      obtain rfl : R = true := HR.out.1.trans (decide_eq_true ⟨by have := HR.out.2; omega, fun j hj => hall j (by have := HR.out.2; omega)⟩)
      clear hall
      go_wp2
      go_ret
      exact ⟨rfl, hE⟩

set_option maxRecDepth 100000 in
set_option maxHeartbeats 8000000 in
theorem may13_calls (v : Value) (n : Nw) (w : World) (hF : Nv13 w v n) (hf : Few1 n) : Calls Try.prog 12 #[v] w fun e w' => e = .returned (.bool (mayN n)) ∧ Ext w w' := by
  obtain ⟨vS, vC, ws, rfl, hW, hss, hC⟩ := hF
  obtain ⟨_, _, h3⟩ := hf
  have KS := veil (fun W (h : Ext w W) => mayServices_calls vS n.ss ws W (hW.ext h) hss h3)
  have KC := veil (fun W (h : Ext w W) => mayConns_calls vC n.cs n.ss.length W (hC.ext h))
  obtain ⟨⟨AS, cS, rfl, hcS, _⟩, _⟩ := hW
  obtain ⟨AC, cC, rfl, hcC, _⟩ := hC
  have hkl : ws.length = n.ss.length := by rw [hss, List.length_map]
  rw [hkl] at KS hcS ⊢
  rw [mayN_and]
  generalize ssOk n.ss = S at *
  generalize csOk n.cs n.ss.length = T at *
  generalize n.ss.length = k at *
  generalize n.cs.length = m at *
  have hE0 := Ext.alloc w (.cells #[.slice AS k cS, .slice AC m cC] 25)
  have hS0 := NwAt.new w (.slice AS k cS) (.slice AC m cC)
  clear hss hkl h3
  go_enter Try.func12, Try.ntmps12
  go_upto_region 1 with (fail)
  unfold NwAt at hS0
  obtain ⟨g, hg⟩ : ∃ g, g = w.heap.size := ⟨_, rfl⟩
  rw [← hg] at hS0 ⊢
  generalize w.alloc (.cells #[.slice AS k cS, .slice AC m cC] 25) = w0 at *
  have HS := veil (show NwAt w0 g (.slice AS k cS) (.slice AC m cC) from hS0)
  have HE := veil hE0
  clear hE0 hS0 hg
  have c0 := HS.out.at0
  cases S with
  | false =>
    go_wp2_with (go_at_call 21; refine (KS.out _ HE.out).mono ?_; rintro e w1 ⟨rfl, hE1⟩)
    go_ret
    exact ⟨rfl, HE.out.trans hE1⟩
  | true =>
    go_wp2_with (first
      | (go_at_call 21; refine (KS.out _ HE.out).mono ?_; rintro e w1 ⟨rfl, hE1⟩; have c0 := (HS.out.ext hE1).at0; have c1 := (HS.out.ext hE1).at1)
      | (go_at_call 22; refine (KC.out _ (HE.out.trans hE1)).mono ?_; rintro e w2 ⟨rfl, hE2⟩))
    go_ret
    exact ⟨rfl, HE.out.trans (hE1.trans hE2)⟩
end Go.Proofs.Ytebcdhfmhnhalaa
