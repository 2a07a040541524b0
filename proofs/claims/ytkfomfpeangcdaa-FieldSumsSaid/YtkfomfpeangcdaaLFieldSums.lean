/-
  FieldSums: the sum, the difference and the product of any two numbers are the document's, by definition.
  No condition.
-/
import Derived.Test.YtkfomfpeangcdaaFUp
import Derived.Test.YtkfomfpeangcdaaFLaw
import Derived.Test.YtkfomfpeangcdaaFAdd2
import Derived.Test.YtkfomfpeangcdaaFSub2
import Derived.Test.YtkfomfpeangcdaaFMul2
import Derived.Test.YtkfomfpeangcdaaG7
import Derived.Test.YtkfomfpeangcdaaEql
import Derived.Deep.RegionHeld3
namespace Go.Proofs.Ytkfomfpeangcdaa
open Go.RowKit

set_option maxRecDepth 100000 in
set_option maxHeartbeats 8000000 in
theorem sums_walk (M : Nat) (X : Nat) (Y : Nat) (hM : M < top) (hX : X < top) (hY : Y < top) (w : World) :
    Calls Try.prog 4 #[.agg #[.int .u64 (wd (M) 0), .int .u64 (wd (M) 1), .int .u64 (wd (M) 2), .int .u64 (wd (M) 3)], .agg #[.int .u64 (wd (X) 0), .int .u64 (wd (X) 1), .int .u64 (wd (X) 2), .int .u64 (wd (X) 3)], .agg #[.int .u64 (wd (Y) 0), .int .u64 (wd (Y) 1), .int .u64 (wd (Y) 2), .int .u64 (wd (Y) 3)]] w fun e w' => e = .returned (.bool true) ∧ Below w.heap.size w w' := by
  have hA0 : (((w.alloc (.cells #[.int .u64 (wd (M) 0), .int .u64 (wd (M) 1), .int .u64 (wd (M) 2), .int .u64 (wd (M) 3)] 24)).alloc (.cells #[.int .u64 (wd (X) 0), .int .u64 (wd (X) 1), .int .u64 (wd (X) 2), .int .u64 (wd (X) 3)] 24)).alloc (.cells #[.int .u64 (wd (Y) 0), .int .u64 (wd (Y) 1), .int .u64 (wd (Y) 2), .int .u64 (wd (Y) 3)] 24)).rowIs w.heap.size 24 4 (fun j => .int .u64 (wd M j)) := ((row_new (n := 4) (by simp) rfl (arr4 fun j => .int .u64 (wd M j))).alloc _).alloc _
  have hA1 : (((w.alloc (.cells #[.int .u64 (wd (M) 0), .int .u64 (wd (M) 1), .int .u64 (wd (M) 2), .int .u64 (wd (M) 3)] 24)).alloc (.cells #[.int .u64 (wd (X) 0), .int .u64 (wd (X) 1), .int .u64 (wd (X) 2), .int .u64 (wd (X) 3)] 24)).alloc (.cells #[.int .u64 (wd (Y) 0), .int .u64 (wd (Y) 1), .int .u64 (wd (Y) 2), .int .u64 (wd (Y) 3)] 24)).rowIs (w.heap.size + 1) 24 4 (fun j => .int .u64 (wd X j)) := (row_new (n := 4) (by simp) rfl (arr4 fun j => .int .u64 (wd X j))).alloc _
  have hA2 : (((w.alloc (.cells #[.int .u64 (wd (M) 0), .int .u64 (wd (M) 1), .int .u64 (wd (M) 2), .int .u64 (wd (M) 3)] 24)).alloc (.cells #[.int .u64 (wd (X) 0), .int .u64 (wd (X) 1), .int .u64 (wd (X) 2), .int .u64 (wd (X) 3)] 24)).alloc (.cells #[.int .u64 (wd (Y) 0), .int .u64 (wd (Y) 1), .int .u64 (wd (Y) 2), .int .u64 (wd (Y) 3)] 24)).rowIs (w.heap.size + 1 + 1) 24 4 (fun j => .int .u64 (wd Y j)) := row_new (n := 4) (by simp) rfl (arr4 fun j => .int .u64 (wd Y j))
  have hbel : Below w.heap.size w (((w.alloc (.cells #[.int .u64 (wd (M) 0), .int .u64 (wd (M) 1), .int .u64 (wd (M) 2), .int .u64 (wd (M) 3)] 24)).alloc (.cells #[.int .u64 (wd (X) 0), .int .u64 (wd (X) 1), .int .u64 (wd (X) 2), .int .u64 (wd (X) 3)] 24)).alloc (.cells #[.int .u64 (wd (Y) 0), .int .u64 (wd (Y) 1), .int .u64 (wd (Y) 2), .int .u64 (wd (Y) 3)] 24)) := (((Below.refl _ _).alloc (by simp) _).alloc (by simp) _).alloc (by simp; omega) _
  go_enter Try.func4, Try.ntmps4
  go_wp2_with fail
  refine (up_calls _).mono ?_
  rintro e w1 ⟨rfl, hb1⟩
  replace hA0 := row_below (by exact hA0) hb1 (by exact hA0.lt)
  replace hA1 := row_below (by exact hA1) hb1 (by exact hA1.lt)
  replace hA2 := row_below (by exact hA2) hb1 (by exact hA2.lt)
  replace hbel := Below.trans (by first | exact hbel | exact hbel.drew) (hb1.mono (by exact hbel.size))
  clear hb1
  obtain ⟨m0, m1, m2, m3⟩ := row_c4 hA0
  go_wp2_with fail
  by_cases hg : oddB M = false
  · refine (new_bad M hg hM _).mono ?_
    rintro e w2 ⟨rfl, hb2⟩
    replace hA0 := row_below (by exact hA0) hb2 (by exact hA0.lt)
    replace hA1 := row_below (by exact hA1) hb2 (by exact hA1.lt)
    replace hA2 := row_below (by exact hA2) hb2 (by exact hA2.lt)
    replace hbel := Below.trans (by first | exact hbel | exact hbel.drew) (hb2.mono (by exact hbel.size))
    clear hb2 m0 m1 m2 m3
    obtain ⟨m0, m1, m2, m3⟩ := row_c4 hA0
    have k1 := fun W => eql_err1 W
    have KO := veil (fun W => odd_calls M false hg hM W)
    clear hg
    go_wp2_with fail
    refine (KO.out _).mono ?_
    rintro e w3 ⟨rfl, hb3⟩
    replace hA0 := row_below (by exact hA0) hb3 (by exact hA0.lt)
    replace hA1 := row_below (by exact hA1) hb3 (by exact hA1.lt)
    replace hA2 := row_below (by exact hA2) hb3 (by exact hA2.lt)
    replace hbel := Below.trans (by first | exact hbel | exact hbel.drew) (hb3.mono (by exact hbel.size))
    clear hb3 m0 m1 m2 m3
    go_wp2
    go_ret
    exact ⟨rfl, hbel⟩
  · obtain ⟨g1, g2⟩ := good_of hg
    refine (new_good M g1 g2 hM _).mono ?_
    rintro e w2 ⟨⟨b, N, Q, hK, hFr, hbw, rfl⟩, hb2⟩
    replace hA0 := row_below (by exact hA0) hb2 (by exact hA0.lt)
    replace hA1 := row_below (by exact hA1) hb2 (by exact hA1.lt)
    replace hA2 := row_below (by exact hA2) hb2 (by exact hA2.lt)
    replace hbel := Below.trans (by first | exact hbel | exact hbel.drew) (hb2.mono (by exact hbel.size))
    clear hb2 m0 m1 m2 m3 hbw
    obtain ⟨m0, m1, m2, m3⟩ := row_c4 hA0
    have KO := veil (fun W => odd_calls M true (by simpa using hg) hM W)
    clear hg
    go_wp2_with fail
    refine (KO.out _).mono ?_
    rintro e wz ⟨rfl, hb3⟩
    replace hA0 := row_below (by exact hA0) hb3 (by exact hA0.lt)
    replace hA1 := row_below (by exact hA1) hb3 (by exact hA1.lt)
    replace hA2 := row_below (by exact hA2) hb3 (by exact hA2.lt)
    replace hFr := Fb.below (by exact hFr) hb3 (by exact hFr.lt)
    replace hbel := Below.trans (by first | exact hbel | exact hbel.drew) (hb3.mono (by exact hbel.size))
    clear hb3 m0 m1 m2 m3 KO
    have hM0 : 0 < M := by omega
    have hXM := Nat.mod_lt X hM0
    have hYM := Nat.mod_lt Y hM0
    have KX := fun W => gin_calls X M hX (by omega) hM W
    have KY := fun W => gin_calls Y M hY (by omega) hM W
    obtain ⟨A, hA⟩ : ∃ A, A = (X % M + Y % M) % M := ⟨_, rfl⟩
    obtain ⟨D, hD⟩ : ∃ D, D = (X % M + M - Y % M) % M := ⟨_, rfl⟩
    obtain ⟨P, hP⟩ : ∃ P, P = X % M * (Y % M) % M := ⟨_, rfl⟩
    have K1 := veil (fun W (h : Fb W b M N Q) => fadd2_calls b X Y M N Q A hX hY hK hA.symm W h)
    have K2 := veil (fun W (h : Fb W b M N Q) => fsub2_calls b X Y M N Q D hX hY hK hD.symm W h)
    have K3 := veil (fun W (h : Fb W b M N Q) => fmul2_calls b X Y M N Q P hX hY hK (by rw [hP, ← Nat.mul_mod]) W h)
    have K4 := fun W => gadd_calls (X % M) (Y % M) M hXM hYM hM W
    have K5 := fun W => gsub_calls (X % M) (Y % M) M hXM hYM hM W
    have K6 := fun W => gmul_calls (X % M) (Y % M) M hXM (by omega) hM W
    rw [← hA] at K4
    rw [← hD] at K5
    rw [← hP] at K6
    have K4 := veil K4
    have K5 := veil K5
    have K6 := veil K6
    have KX := veil KX
    have KY := veil KY
    have k1 := fun W => eql_num_same A W
    have k2 := fun W => eql_num_same D W
    have k3 := fun W => eql_num_same P W
    clear hA hD hP hM0 hXM hYM hX hY hM hK g1 g2
    generalize X % M = U at *
    generalize Y % M = V at *
    obtain ⟨m0, m1, m2, m3⟩ := row_c4 hA0
    obtain ⟨x0, x1, x2, x3⟩ := row_c4 hA1
    go_wp2_with fail
    refine (KX.out _).mono ?_
    rintro e w4 ⟨rfl, hb4⟩
    replace hA0 := row_below (by exact hA0) hb4 (by exact hA0.lt)
    replace hA1 := row_below (by exact hA1) hb4 (by exact hA1.lt)
    replace hA2 := row_below (by exact hA2) hb4 (by exact hA2.lt)
    replace hFr := Fb.below (by exact hFr) hb4 (by exact hFr.lt)
    replace hbel := Below.trans (by first | exact hbel | exact hbel.drew) (hb4.mono (by exact hbel.size))
    clear hb4 m0 m1 m2 m3 x0 x1 x2 x3
    go_upto_region 7 with (fail)
    have hU : (w4.alloc (.cells #[.int .u64 (wd (U) 0), .int .u64 (wd (U) 1), .int .u64 (wd (U) 2), .int .u64 (wd (U) 3)] 24)).rowIs w4.heap.size 24 4 (fun j => .int .u64 (wd U j)) := row_new (n := 4) rfl rfl (arr4 fun j => .int .u64 (wd U j))
    replace hA0 := hA0.alloc (.cells #[.int .u64 (wd (U) 0), .int .u64 (wd (U) 1), .int .u64 (wd (U) 2), .int .u64 (wd (U) 3)] 24)
    replace hA1 := hA1.alloc (.cells #[.int .u64 (wd (U) 0), .int .u64 (wd (U) 1), .int .u64 (wd (U) 2), .int .u64 (wd (U) 3)] 24)
    replace hA2 := hA2.alloc (.cells #[.int .u64 (wd (U) 0), .int .u64 (wd (U) 1), .int .u64 (wd (U) 2), .int .u64 (wd (U) 3)] 24)
    replace hFr := hFr.alloc (.cells #[.int .u64 (wd (U) 0), .int .u64 (wd (U) 1), .int .u64 (wd (U) 2), .int .u64 (wd (U) 3)] 24)
    replace hbel := hbel.alloc hbel.size (.cells #[.int .u64 (wd (U) 0), .int .u64 (wd (U) 1), .int .u64 (wd (U) 2), .int .u64 (wd (U) 3)] 24)
    generalize w4.heap.size = ghU at *
    generalize w4.alloc (.cells #[.int .u64 (wd (U) 0), .int .u64 (wd (U) 1), .int .u64 (wd (U) 2), .int .u64 (wd (U) 3)] 24) = w5 at *
    obtain ⟨m0, m1, m2, m3⟩ := row_c4 hA0
    obtain ⟨y0, y1, y2, y3⟩ := row_c4 hA2
    go_wp2_with fail
    refine (KY.out _).mono ?_
    rintro e w6 ⟨rfl, hb6⟩
    replace hA0 := row_below (by exact hA0) hb6 (by exact hA0.lt)
    replace hA1 := row_below (by exact hA1) hb6 (by exact hA1.lt)
    replace hA2 := row_below (by exact hA2) hb6 (by exact hA2.lt)
    replace hU := row_below (by exact hU) hb6 (by exact hU.lt)
    replace hFr := Fb.below (by exact hFr) hb6 (by exact hFr.lt)
    replace hbel := Below.trans (by first | exact hbel | exact hbel.drew) (hb6.mono (by exact hbel.size))
    clear hb6 m0 m1 m2 m3 y0 y1 y2 y3
    go_upto_region 8 with (fail)
    have hV : (w6.alloc (.cells #[.int .u64 (wd (V) 0), .int .u64 (wd (V) 1), .int .u64 (wd (V) 2), .int .u64 (wd (V) 3)] 24)).rowIs w6.heap.size 24 4 (fun j => .int .u64 (wd V j)) := row_new (n := 4) rfl rfl (arr4 fun j => .int .u64 (wd V j))
    replace hA0 := hA0.alloc (.cells #[.int .u64 (wd (V) 0), .int .u64 (wd (V) 1), .int .u64 (wd (V) 2), .int .u64 (wd (V) 3)] 24)
    replace hA1 := hA1.alloc (.cells #[.int .u64 (wd (V) 0), .int .u64 (wd (V) 1), .int .u64 (wd (V) 2), .int .u64 (wd (V) 3)] 24)
    replace hA2 := hA2.alloc (.cells #[.int .u64 (wd (V) 0), .int .u64 (wd (V) 1), .int .u64 (wd (V) 2), .int .u64 (wd (V) 3)] 24)
    replace hU := hU.alloc (.cells #[.int .u64 (wd (V) 0), .int .u64 (wd (V) 1), .int .u64 (wd (V) 2), .int .u64 (wd (V) 3)] 24)
    replace hFr := hFr.alloc (.cells #[.int .u64 (wd (V) 0), .int .u64 (wd (V) 1), .int .u64 (wd (V) 2), .int .u64 (wd (V) 3)] 24)
    replace hbel := hbel.alloc hbel.size (.cells #[.int .u64 (wd (V) 0), .int .u64 (wd (V) 1), .int .u64 (wd (V) 2), .int .u64 (wd (V) 3)] 24)
    generalize w6.heap.size = ghV at *
    generalize w6.alloc (.cells #[.int .u64 (wd (V) 0), .int .u64 (wd (V) 1), .int .u64 (wd (V) 2), .int .u64 (wd (V) 3)] 24) = wz2 at *
    obtain ⟨c00, c01, c02, c03⟩ := row_c4 hA0
    have z0 := hA0.lt
    obtain ⟨c10, c11, c12, c13⟩ := row_c4 hA1
    have z1 := hA1.lt
    obtain ⟨c20, c21, c22, c23⟩ := row_c4 hA2
    have z2 := hA2.lt
    have zf := hFr.lt
    obtain ⟨u0, u1, u2, u3⟩ := row_c4 hU
    obtain ⟨v0, v1, v2, v3⟩ := row_c4 hV
    have zu := hU.lt
    have zv := hV.lt
    clear hA0 hA1 hA2 hU hV KX KY
    go_wp2_with fail
    as_aux_lemma =>
    go_region_held3 (fun w' => (∀ b o, b < wz2.heap.size → w'.cell? ⟨b, o, none⟩ = wz2.cell? ⟨b, o, none⟩) ∧ Below wz2.heap.size wz2 w')
      (first
        | with_reducible exact keep_drew _
        | with_reducible exact keep_old (by assumption) (by assumption)
        | exact keep_drew _
        | exact keep_old (by assumption) (by assumption))
      (first
        | (go_at_call 17; refine (K1.out _ (by first | with_reducible exact hFr | with_reducible exact hFr.drew | with_reducible exact held_fb hFr (by assumption) | exact held_fb hFr (by assumption) | exact hFr)).mono ?_; rintro e w' ⟨rfl, hb'⟩)
        | (go_at_call 19; refine (K2.out _ (by first | with_reducible exact hFr | with_reducible exact hFr.drew | with_reducible exact held_fb hFr (by assumption) | exact held_fb hFr (by assumption) | exact hFr)).mono ?_; rintro e w' ⟨rfl, hb'⟩)
        | (go_at_call 21; refine (K3.out _ (by first | with_reducible exact hFr | with_reducible exact hFr.drew | with_reducible exact held_fb hFr (by assumption) | exact held_fb hFr (by assumption) | exact hFr)).mono ?_; rintro e w' ⟨rfl, hb'⟩)
        | (go_at_call 18; refine (K4.out _).mono ?_; rintro e w' ⟨rfl, hb'⟩)
        | (go_at_call 20; refine (K5.out _).mono ?_; rintro e w' ⟨rfl, hb'⟩)
        | (go_at_call 22; refine (K6.out _).mono ?_; rintro e w' ⟨rfl, hb'⟩))
    all_goals
      go_wp2
      go_ret
      have hh := (by assumption : _ ∧ Below wz2.heap.size wz2 _)
      exact ⟨rfl, hbel.trans (hh.2.mono hbel.size)⟩

/-! ### the statement -/
section
open Go.ChangeShapes Go.WideShapes Go.ChangeAt
set_option maxRecDepth 100000 in
theorem FieldSums_lifted (os : Os) (started : os.Started) (H : Type) (enc : TypeId × Value → H) :
    ReturnsInHanded {} Try.checked os 4 .any (Rows.fieldSumsSpec.pre6 enc Try.prog Try.f4 Rows.fieldSumsRow.domain false) (Rows.fieldSumsSpec.post enc Try.prog Try.f4 false true false false) := by
  refine returnsInHanded_of_change (C := Try.checked) own started (by kernel_rfl) Try.func4
    (ChangeSpec.witness6 (enc := enc) (C := Try.checked) false ⟨#[], #[.agg #[.int .u64 0, .int .u64 0, .int .u64 0, .int .u64 0], .agg #[.int .u64 0, .int .u64 0, .int .u64 0, .int .u64 0], .agg #[.int .u64 0, .int .u64 0, .int .u64 0, .int .u64 0]], []⟩ 8 (by kernel_rfl) (by kernel_rfl) (by kernel_rfl) (by kernel_rfl)) ?_
  intro W base args ds gs before hval0 hW _ _
  have hval : ∀ (j : Nat) t v, Try.f4.params[j]? = some t → args[j]? = some v → Value.okWide Try.prog W .any base t v := hval0
  have hW' := hW
  obtain ⟨p, q, hA0, hV, rfl, _, _⟩ := hW
  have hA : DataW.TrodAll enc Try.prog W 0 (fun _ => true) true Try.f4.params.toList args.toList ds p := hA0
  rw [Try.params4] at hA hval
  obtain ⟨v0, v1, v2, d0, d1, d2, p0, p1, p2, rfl, rfl, rfl, h0, h1, h2⟩ := trodAll_three hA
  obtain ⟨rfl, rfl⟩ := trodVars_none hV
  obtain ⟨M, hM, rfl, rfl, rfl⟩ := open_num (hval 0 24 v0 rfl rfl) h0
  obtain ⟨X, hX, rfl, rfl, rfl⟩ := open_num (hval 1 24 v1 rfl rfl) h1
  obtain ⟨Y, hY, rfl, rfl, rfl⟩ := open_num (hval 2 24 v2 rfl rfl) h2
  clear hA0 hval0
  simp only [List.append_nil] at hW'
  refine (sums_walk M X Y hM hX hY W).mono fun e W' ⟨he, hb⟩ => ?_
  subst he
  exact ⟨_, rfl, _, _, _, [], [], [], hW', trodAll_mk1 (shut_bool Try.underlying4 true), trodAll_mk3 (shut_num W' 0 _ true M) (shut_num W' 0 _ true X) (shut_num W' 0 _ true Y), rfl, hb.frame _, fun h => by cases h⟩

theorem FieldSums_over : Rows.fieldSumsRow.holds Try.pinned (OpenSpec.ofChange Rows.fieldSumsSpec) :=
  OpenClaim.holds_of_wide 4 Try.f4 rfl rfl rfl rfl rfl rfl rfl ⟨rfl, rfl, rfl, rfl, rfl⟩ rfl rfl rfl rfl rfl (by kernel_rfl) Try.func4 (by kernel_rfl)
    (of_decide_eq_true (by kernel_rfl)) (by unfold Func.isWrapper; rw [if_neg (of_decide_eq_false (by kernel_rfl))]; exact ⟨rfl, rfl⟩)
    (fun os started H enc _ => FieldSums_lifted os started H enc)

theorem FieldSums_holds : Rows.FieldSumsSaid :=
  FieldSums_over
end

#print axioms FieldSums_holds
end Go.Proofs.Ytkfomfpeangcdaa
