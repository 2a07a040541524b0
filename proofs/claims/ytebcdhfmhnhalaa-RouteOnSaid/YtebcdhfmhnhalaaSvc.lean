/-
  Services in memory; clapperref12.May.
-/
import Derived.Test.YtebcdhfmhnhalaaSvb
namespace Go.Proofs.Ytebcdhfmhnhalaa
open Go.RowKit

theorem up_calls12 {P : Program} {w : World} {D : World → Prop} (h : Up w D) {f : FuncId} {args : Array Value} {v : Value} (k : ∀ W, Ext w W → Calls P f args W fun _e w' => _e = .returned v ∧ Ext W w') (x : Gw D) :
    Calls P f args x.val fun _e w' => _e = .returned v ∧ ∃ y : Gw D, w' = y.val :=
  (k _ (h.grown _ x.property)).mono fun _ w' ⟨he, hE⟩ => ⟨he, ⟨w', h.up _ _ x.property hE⟩, rfl⟩
/-- A service's cells. -/
def svC (s : Sv) (vE vX : Value) : Array Value := #[.int .i64 s.wk, .int .i64 s.fr, .int .i64 s.to, vE, vX]
/-- v is the service s. -/
def Vs12 (w : World) (v : Value) (s : Sv) : Prop := ∃ vE vX, v = .agg (svC s vE vX) ∧ Ds w vE s.ex ∧ Ds w vX s.ec
theorem Vs12.ext {w w' : World} {v : Value} {s : Sv} (h : Vs12 w v s) (k : Ext w w') : Vs12 w' v s := by
  obtain ⟨vE, vX, e, h1, h2⟩ := h
  exact ⟨vE, vX, e, h1.ext k, h2.ext k⟩
theorem iSv (s : Sv) (vE vX : Value) : (Try.prog.info? 43).map (·.size) = some (svC s vE vX).size := by
  show _ = some 5
  kernel_rfl
section
variable {w w' : World} {g : Nat} {s : Sv} {vE vX : Value}
/-- g holds the service s. -/
def SvAt (w : World) (g : Nat) (s : Sv) (vE vX : Value) : Prop := w.heap[g]? = some (.cells (svC s vE vX) 43 (0, 0))
theorem SvAt.ext (h : SvAt w g s vE vX) (k : Ext w w') : SvAt w' g s vE vX := k.block h
theorem SvAt.at0 (h : SvAt w g s vE vX) : w.cell? ⟨g, 0, none⟩ = some (.int .i64 s.wk) := cell_of_row w g 0 _ _ _ h
theorem SvAt.at1 (h : SvAt w g s vE vX) : w.cell? ⟨g, 1, none⟩ = some (.int .i64 s.fr) := cell_of_row w g 1 _ _ _ h
theorem SvAt.at2 (h : SvAt w g s vE vX) : w.cell? ⟨g, 2, none⟩ = some (.int .i64 s.to) := cell_of_row w g 2 _ _ _ h
theorem SvAt.at3 (h : SvAt w g s vE vX) : w.cell? ⟨g, 3, none⟩ = some vE := cell_of_row w g 3 _ _ _ h
theorem SvAt.at4 (h : SvAt w g s vE vX) : w.cell? ⟨g, 4, none⟩ = some vX := cell_of_row w g 4 _ _ _ h
theorem SvAt.new (w : World) (s : Sv) (vE vX : Value) : SvAt (w.alloc (.cells (svC s vE vX) 43)) w.heap.size s vE vX := heap_new w _
end
theorem boundB_no {wk fr tu : Int} {ex ec : List Int} (h : ¬ (0 ≤ wk ∧ wk ≤ 127 ∧ 0 ≤ fr ∧ fr ≤ tu ∧ tu ≤ 1048576)) : boundB ⟨wk, fr, tu, ex, ec⟩ = false := decide_eq_false h
theorem boundB_yes {wk fr tu : Int} {ex ec : List Int} (h : 0 ≤ wk ∧ wk ≤ 127 ∧ 0 ≤ fr ∧ fr ≤ tu ∧ tu ≤ 1048576) : boundB ⟨wk, fr, tu, ex, ec⟩ = true := decide_eq_true h
theorem mayV_ex {s : Sv} (h : ¬ s.ex.length ≤ 100) : mayV s = false := by unfold mayV; rw [daysB_long h]; rfl
theorem mayV_ec {s : Sv} (h : ¬ s.ec.length ≤ 100) : mayV s = false := by unfold mayV; rw [daysB_long h]; simp
theorem mayV_far {s : Sv} (h : farB s.ex s.ec = false) : mayV s = false := by unfold mayV; rw [h]; simp
theorem mayV_rest {s : Sv} (h : farB s.ex s.ec = true) : mayV s = (daysB s.ex && daysB s.ec && boundB s) := by unfold mayV; rw [h, Bool.and_true]

set_option maxRecDepth 100000 in
set_option maxHeartbeats 8000000 in
theorem rmay12_calls (v : Value) (s : Sv) (w : World) (hF : Vs12 w v s) (h1 : s.ex.length ≤ 1000000000) (h2 : s.ec.length ≤ 1000000000) :
    Calls Try.prog 19 #[v] w fun e w' => e = .returned (.bool (mayV s)) ∧ Ext w w' := by
  obtain ⟨vE, vX, rfl, hE, hX⟩ := hF
  obtain ⟨R, hR⟩ : ∃ R, R = mayV s := ⟨_, rfl⟩
  rw [← hR]
  have KA := veil (fun W (h : Ext w W) => days12_calls vE s.ex W (hE.ext h) h1)
  have KB := veil (fun W (h : Ext w W) => days12_calls vX s.ec W (hX.ext h) h2)
  have KI := veil (fun d W (h : Ext w W) => in12_calls vX s.ec d W (hX.ext h) h2)
  obtain ⟨AE, cE, rfl, hcE, hxE⟩ := hE
  obtain ⟨AX, cX, rfl, hcX, _⟩ := hX
  obtain ⟨n, hn⟩ : ∃ n, n = s.ex.length := ⟨_, rfl⟩
  obtain ⟨m, hm⟩ : ∃ m, m = s.ec.length := ⟨_, rfl⟩
  rw [← hn] at hxE KA hcE ⊢
  rw [← hm] at KB KI hcX ⊢
  have HX := veil hxE
  have HR := veil (And.intro hR (And.intro hn (And.intro hm h1)))
  have hnL : n ≤ 1000000000 := by omega
  have hmL : m ≤ 1000000000 := by omega
  have hE0 := Ext.alloc w (.cells (svC s (.slice AE n cE) (.slice AX m cX)) 43)
  have hS0 := SvAt.new w s (.slice AE n cE) (.slice AX m cX)
  clear hR hn hm h1 h2 hxE
  obtain ⟨wk, fr, tu, ex, ec⟩ := s
  simp only at HX HR KA KB KI
  unfold svC at hE0 ⊢
  simp only at hE0 ⊢
  go_enter Try.func19, Try.ntmps19
  go_upto_region 1 with (fail)
  unfold SvAt svC at hS0
  simp only at hS0
  obtain ⟨g, hg⟩ : ∃ g, g = w.heap.size := ⟨_, rfl⟩
  rw [← hg] at hS0 ⊢
  generalize w.alloc (.cells #[.int .i64 wk, .int .i64 fr, .int .i64 tu, .slice AE n cE, .slice AX m cX] 43) = w0 at *
  have HS := veil (show SvAt w0 g ⟨wk, fr, tu, ex, ec⟩ (.slice AE n cE) (.slice AX m cX) from hS0)
  have HE := veil hE0
  clear hE0 hS0 hg
  have c3 := HS.out.at3
  have c4 := HS.out.at4
  by_cases a1 : (100 : Int) < (n : Int)
  · have d1 : decide ((100 : Int) < (n : Int)) = true := decide_eq_true a1
    have e : R = false := HR.out.1.trans (mayV_ex (by show ¬ ex.length ≤ 100; have := HR.out.2.1; omega))
    subst e
    go_wp2
    go_ret
    exact ⟨rfl, HE.out⟩
  have d1 : decide ((100 : Int) < (n : Int)) = false := decide_eq_false a1
  by_cases a2 : (100 : Int) < (m : Int)
  · have d2 : decide ((100 : Int) < (m : Int)) = true := decide_eq_true a2
    have e : R = false := HR.out.1.trans (mayV_ec (by show ¬ ec.length ≤ 100; have := HR.out.2.2.1; omega))
    subst e
    go_wp2
    go_ret
    exact ⟨rfl, HE.out⟩
  have d2 : decide ((100 : Int) < (m : Int)) = false := decide_eq_false a2
  go_upto_region 4 with (go_at_call 28; refine (KA.out _ HE.out).mono ?_; rintro e w1 ⟨rfl, hE1⟩)
  have HE1 := veil (HE.out.trans hE1)
  have HS1 := veil (HS.out.ext hE1)
  clear hE1 c3 c4 d1 d2 a1 a2 KA HS HE
  have c4 := HS1.out.at4
  go_upto_region 5 with (go_at_call 28; refine (KB.out _ HE1.out).mono ?_; rintro e w2 ⟨rfl, hE2⟩)
  have HE2 := veil (HE1.out.trans hE2)
  have HS2 := veil (HS1.out.ext hE2)
  clear hE2 c4 HS1 HE1 KB
  obtain ⟨A, hA⟩ : ∃ A, A = daysB ex := ⟨_, rfl⟩
  obtain ⟨B, hB⟩ : ∃ B, B = daysB ec := ⟨_, rfl⟩
  rw [← hA, ← hB]
  have HAB := veil (And.intro hA hB)
  clear hA hB
  go_wp2
  go_loopw [5, 6] (fun v _ wr => ∃ i : Nat, i ≤ n ∧ v = .int .i64 (i : Int) ∧ (∀ j, j < i → ex.getD j 0 ∉ ec) ∧ Ext w2 wr)
    (fun v _ _ => n - (intOf v).toNat)
  case atStart => exact ⟨0, by omega, rfl, fun j hj => by omega, Ext.refl _⟩
  case round =>
    obtain ⟨i, hi, rfl, hall, hE⟩ := hrel
    have c3 := (HS2.out.ext hE).at3
    by_cases hlt : i < n
    · have hd1 : decide ((i : Int) < (n : Int)) = true := by simp; omega
      have hii : (i : Int) < (n : Int) := by omega
      obtain ⟨b, o, hAL, hb, hcl⟩ := HX.out.resolve_left (by omega)
      have hil : i < ex.length := by have := HR.out.2.1; omega
      have c0 := d_cell (HE2.out.trans hE) hb hcl hil
      have c4 := (HS2.out.ext hE).at4
      have HK := veil (And.intro hall (And.intro hil hE))
      obtain ⟨k, hk⟩ : ∃ z, z = ex.getD i 0 := ⟨_, rfl⟩
      rw [← hk] at c0
      have HV := veil hk
      clear hk hall hcl hb hE hil
      subst hAL
      obtain ⟨J, hJ⟩ : ∃ J, J = decide (k ∈ ec) := ⟨_, rfl⟩
      have HJ := veil hJ
      clear hJ
      go_upto_region 8 with (fail)
      refine wp_sched 9 [(true, List.range 9)] (by kernel_rfl) (by kernel_rfl) fun Q' hQ' => ?_
      refine' sched_row (A := _) _ rfl (by kernel_rfl) ?_ ?_
      rotate_left
      · intro D hD hN
        have e0 := hD.cell c0
        have e3 := hD.cell c3
        have e4 := hD.cell c4
        have KC := veil (fun x : Gw D => up_calls12 hD (v := .bool J) (fun W hW => by have := KI.out k W (HE2.out.trans (HK.out.2.2.trans hW)); rwa [← HJ.out] at this) x)
        simp only [List.range, List.range.loop, pickI, consO, List.getElem?_cons_zero, List.getElem?_cons_succ]
        repeat (go_big_quiet_step (exact KC.out _))
        exact wpq_end
      refine sched_end hQ' fun W3 hE3 => ?_
      have HE3 := veil (HK.out.2.2.trans hE3)
      clear hE3 c0 c3 c4
      cases J with
      | true =>
        have e : R = false := HR.out.1.trans (mayV_far (farB_false HK.out.2.1 (by rw [← HV.out]; exact of_decide_eq_true HJ.out.symm)))
        subst e
        go_wp2
        go_ret
        exact ⟨rfl, HE2.out.trans HE3.out⟩
      | false =>
        go_wp2
        go_roundw
        case rel =>
          refine ⟨i + 1, by omega, by go_num, fun j hj => ?_, HE3.out⟩
          by_cases e : j = i
          · subst e
            rw [← HV.out]
            exact of_decide_eq_false HJ.out.symm
          · exact HK.out.1 j (by omega)
        case measure => simp [intOf]; omega
    · obtain rfl : i = n := by omega
      have hd1 : decide ((i : Int) < (i : Int)) = false := by simp
      have hR := HR.out.1.trans (mayV_rest (farB_true (by show ∀ j, j < ex.length → ex.getD j 0 ∉ ec; rw [← HR.out.2.1]; exact hall)))
      simp only [← HAB.out.1, ← HAB.out.2] at hR
      have c0 := (HS2.out.ext hE).at0
      have c1 := (HS2.out.ext hE).at1
      have c2 := (HS2.out.ext hE).at2
      simp only at c0 c1 c2
      have H9 := veil (HE2.out.trans hE)
      clear hall hE HR HX HE2 HS2 KI hcE hcX HAB
      cases A with
      | false =>
        obtain rfl : R = false := hR
        go_wp2
        go_ret
        exact ⟨rfl, H9.out⟩
      | true =>
        cases B with
        | false =>
          obtain rfl : R = false := hR
          go_wp2
          go_ret
          exact ⟨rfl, H9.out⟩
        | true =>
          replace hR : R = boundB ⟨wk, fr, tu, ex, ec⟩ := hR
          by_cases g0 : (0 : Int) ≤ wk
          rotate_left
          · have f0 : decide ((0 : Int) ≤ wk) = false := decide_eq_false g0
            obtain rfl : R = false := hR.trans (boundB_no fun h => by omega)
            clear hR
            go_wp2
            go_ret
            exact ⟨rfl, H9.out⟩
          have f0 : decide ((0 : Int) ≤ wk) = true := decide_eq_true g0
          by_cases g1 : wk ≤ 127
          rotate_left
          · have f1 : decide (wk ≤ 127) = false := decide_eq_false g1
            obtain rfl : R = false := hR.trans (boundB_no fun h => by omega)
            clear hR
            go_wp2
            go_ret
            exact ⟨rfl, H9.out⟩
          have f1 : decide (wk ≤ 127) = true := decide_eq_true g1
          by_cases g2 : (0 : Int) ≤ fr
          rotate_left
          · have f2 : decide ((0 : Int) ≤ fr) = false := decide_eq_false g2
            obtain rfl : R = false := hR.trans (boundB_no fun h => by omega)
            clear hR
            go_wp2
            go_ret
            exact ⟨rfl, H9.out⟩
          have f2 : decide ((0 : Int) ≤ fr) = true := decide_eq_true g2
          by_cases g3 : fr ≤ tu
          rotate_left
          · have f3 : decide (fr ≤ tu) = false := decide_eq_false g3
            obtain rfl : R = false := hR.trans (boundB_no fun h => by omega)
            clear hR
            go_wp2
            go_ret
            exact ⟨rfl, H9.out⟩
          have f3 : decide (fr ≤ tu) = true := decide_eq_true g3
          by_cases g4 : tu ≤ 1048576
          rotate_left
          · have f4 : decide (tu ≤ 1048576) = false := decide_eq_false g4
            obtain rfl : R = false := hR.trans (boundB_no fun h => by omega)
            clear hR
            go_wp2
            go_ret
            exact ⟨rfl, H9.out⟩
          have f4 : decide (tu ≤ 1048576) = true := decide_eq_true g4
          obtain rfl : R = true := hR.trans (boundB_yes ⟨g0, g1, g2, g3, g4⟩)
          clear hR
          go_wp2
          go_ret
          exact ⟨rfl, H9.out⟩
end Go.Proofs.Ytebcdhfmhnhalaa
