/-
  FieldMakes: which numbers are a modulus, and any wide number modulo it, are as the document says, by definition.
  No condition.
-/
import Derived.Test.YtkfomfpeangcdaaFUp
import Derived.Test.YtkfomfpeangcdaaFLaw
import Derived.Test.YtkfomfpeangcdaaFCut
import Derived.Test.YtkfomfpeangcdaaG6
import Derived.Test.YtkfomfpeangcdaaEql
import Derived.Deep.RegionHeld3
namespace Go.Proofs.Ytkfomfpeangcdaa
open Go.RowKit

set_option maxRecDepth 100000 in
set_option maxHeartbeats 8000000 in
theorem makes_walk (M : Nat) (X : Nat) (hM : M < top) (hX : X < top8) (w : World) :
    Calls Try.prog 3 #[.agg #[.int .u64 (wd (M) 0), .int .u64 (wd (M) 1), .int .u64 (wd (M) 2), .int .u64 (wd (M) 3)], .agg #[.int .u64 (wd (X) 0), .int .u64 (wd (X) 1), .int .u64 (wd (X) 2), .int .u64 (wd (X) 3), .int .u64 (wd (X) 4), .int .u64 (wd (X) 5), .int .u64 (wd (X) 6), .int .u64 (wd (X) 7)]] w fun e w' => e = .returned (.bool true) ∧ Below w.heap.size w w' := by
  have hA0 : ((w.alloc (.cells #[.int .u64 (wd (M) 0), .int .u64 (wd (M) 1), .int .u64 (wd (M) 2), .int .u64 (wd (M) 3)] 24)).alloc (.cells #[.int .u64 (wd (X) 0), .int .u64 (wd (X) 1), .int .u64 (wd (X) 2), .int .u64 (wd (X) 3), .int .u64 (wd (X) 4), .int .u64 (wd (X) 5), .int .u64 (wd (X) 6), .int .u64 (wd (X) 7)] 26)).rowIs w.heap.size 24 4 (fun j => .int .u64 (wd M j)) := (row_new (n := 4) (by simp) rfl (arr4 fun j => .int .u64 (wd M j))).alloc _
  have hA1 : ((w.alloc (.cells #[.int .u64 (wd (M) 0), .int .u64 (wd (M) 1), .int .u64 (wd (M) 2), .int .u64 (wd (M) 3)] 24)).alloc (.cells #[.int .u64 (wd (X) 0), .int .u64 (wd (X) 1), .int .u64 (wd (X) 2), .int .u64 (wd (X) 3), .int .u64 (wd (X) 4), .int .u64 (wd (X) 5), .int .u64 (wd (X) 6), .int .u64 (wd (X) 7)] 26)).rowIs (w.heap.size + 1) 26 8 (fun j => .int .u64 (wd X j)) := row_new (n := 8) (by simp) rfl (arr8 fun j => .int .u64 (wd X j))
  have hbel : Below w.heap.size w ((w.alloc (.cells #[.int .u64 (wd (M) 0), .int .u64 (wd (M) 1), .int .u64 (wd (M) 2), .int .u64 (wd (M) 3)] 24)).alloc (.cells #[.int .u64 (wd (X) 0), .int .u64 (wd (X) 1), .int .u64 (wd (X) 2), .int .u64 (wd (X) 3), .int .u64 (wd (X) 4), .int .u64 (wd (X) 5), .int .u64 (wd (X) 6), .int .u64 (wd (X) 7)] 26)) := ((Below.refl _ _).alloc (by simp) _).alloc (by simp) _
  go_enter Try.func3, Try.ntmps3
  go_wp2_with fail
  refine (up_calls _).mono ?_
  rintro e w1 ⟨rfl, hb1⟩
  replace hA0 := row_below (by exact hA0) hb1 (by exact hA0.lt)
  replace hA1 := row_below (by exact hA1) hb1 (by exact hA1.lt)
  replace hbel := Below.trans (by first | exact hbel | exact hbel.drew) (hb1.mono (by exact hbel.size))
  clear hb1
  obtain ⟨m0, m1, m2, m3⟩ := row_c4 hA0
  go_wp2_with fail
  by_cases hg : oddB M = false
  · refine (new_bad M hg hM _).mono ?_
    rintro e w2 ⟨rfl, hb2⟩
    replace hA0 := row_below (by exact hA0) hb2 (by exact hA0.lt)
    replace hA1 := row_below (by exact hA1) hb2 (by exact hA1.lt)
    replace hbel := Below.trans (by first | exact hbel | exact hbel.drew) (hb2.mono (by exact hbel.size))
    clear hb2 m0 m1 m2 m3
    obtain ⟨m0, m1, m2, m3⟩ := row_c4 hA0
    have k1 := fun W => eql_err1 W
    have KO := veil (fun W => odd_calls M false hg hM W)
    clear hg
    go_wp2_with fail
    refine (KO.out _).mono ?_
    rintro e w3 ⟨rfl, hb3⟩
    replace hA0 := row_below (by exact hA0) hb3 (by exact hA0.lt)
    replace hA1 := row_below (by exact hA1) hb3 (by exact hA1.lt)
    replace hbel := Below.trans (by first | exact hbel | exact hbel.drew) (hb3.mono (by exact hbel.size))
    clear hb3 m0 m1 m2 m3
    go_wp2
    go_ret
    exact ⟨rfl, hbel⟩
  · obtain ⟨g1, g2⟩ := good_of hg
    refine (new_good M g1 g2 hM _).mono ?_
    rintro e w2 ⟨⟨b, N, Q, hK, hFr, hbw, rfl⟩, hb2⟩
    replace hA0 := row_below (by exact hA0) hb2 (by exact hA0.lt)
    replace hA1 := row_below (by exact hA1) hb2 (by exact hA1.lt)
    replace hbel := Below.trans (by first | exact hbel | exact hbel.drew) (hb2.mono (by exact hbel.size))
    clear hb2 m0 m1 m2 m3 hbw
    obtain ⟨m0, m1, m2, m3⟩ := row_c4 hA0
    have KO := veil (fun W => odd_calls M true (by simpa using hg) hM W)
    clear hg
    go_wp2_with fail
    refine (KO.out _).mono ?_
    rintro e wz ⟨rfl, hb3⟩
    replace hA0 := row_below (by exact hA0) hb3 (by exact hA0.lt)
    replace hA1 := row_below (by exact hA1) hb3 (by exact hA1.lt)
    replace hFr := Fb.below (by exact hFr) hb3 (by exact hFr.lt)
    replace hbel := Below.trans (by first | exact hbel | exact hbel.drew) (hb3.mono (by exact hbel.size))
    clear hb3 m0 m1 m2 m3 KO
    obtain ⟨P, hP⟩ : ∃ P, P = X % M := ⟨_, rfl⟩
    have K1 := veil (fun W (h : Fb W b M N Q) => mod_calls b M N Q W h)
    have K2 := veil (fun W (h : Fb W b M N Q) => cutw_calls b X M N Q P hX hK hP.symm W h)
    have K3 := fun W => gcut_calls X M hX (by omega) hM W
    rw [← hP] at K3
    have K3 := veil K3
    have k1 := fun W => eql_num_same P W
    have k2 := fun W => eql_num_same M W
    clear hP hX hM hK g1 g2
    obtain ⟨c00, c01, c02, c03⟩ := row_c4 hA0
    have z0 := hA0.lt
    obtain ⟨c10, c11, c12, c13, c14, c15, c16, c17⟩ := row_c8 hA1
    have z1 := hA1.lt
    have zf := hFr.lt
    clear hA0 hA1
    go_wp2_with fail
    as_aux_lemma =>
    go_region_held3 (fun w' => (∀ b o, b < wz.heap.size → w'.cell? ⟨b, o, none⟩ = wz.cell? ⟨b, o, none⟩) ∧ Below wz.heap.size wz w')
      (first
        | with_reducible exact keep_drew _
        | with_reducible exact keep_old (by assumption) (by assumption)
        | exact keep_drew _
        | exact keep_old (by assumption) (by assumption))
      (first
        | (go_at_call 13; refine (K1.out _ (by first | with_reducible exact hFr | with_reducible exact hFr.drew | with_reducible exact held_fb hFr (by assumption) | exact held_fb hFr (by assumption) | exact hFr)).mono ?_; rintro e w' ⟨rfl, hb'⟩)
        | (go_at_call 14; refine (K2.out _ (by first | with_reducible exact hFr | with_reducible exact hFr.drew | with_reducible exact held_fb hFr (by assumption) | exact held_fb hFr (by assumption) | exact hFr)).mono ?_; rintro e w' ⟨rfl, hb'⟩)
        | (go_at_call 15; refine (K3.out _).mono ?_; rintro e w' ⟨rfl, hb'⟩))
    all_goals
      go_wp2
      go_ret
      have hh := (by assumption : _ ∧ Below wz.heap.size wz _)
      exact ⟨rfl, hbel.trans (hh.2.mono hbel.size)⟩

/-! ### the statement -/
section
open Go.ChangeShapes Go.WideShapes Go.ChangeAt
set_option maxRecDepth 100000 in
theorem FieldMakes_lifted (os : Os) (started : os.Started) (H : Type) (enc : TypeId × Value → H) :
    ReturnsInHanded {} Try.checked os 3 .any (Rows.fieldMakesSpec.pre6 enc Try.prog Try.f3 Rows.fieldMakesRow.domain false) (Rows.fieldMakesSpec.post enc Try.prog Try.f3 false true false false) := by
  refine returnsInHanded_of_change (C := Try.checked) own started (by kernel_rfl) Try.func3
    (ChangeSpec.witness6 (enc := enc) (C := Try.checked) false ⟨#[], #[.agg #[.int .u64 0, .int .u64 0, .int .u64 0, .int .u64 0], .agg #[.int .u64 0, .int .u64 0, .int .u64 0, .int .u64 0, .int .u64 0, .int .u64 0, .int .u64 0, .int .u64 0]], []⟩ 8 (by kernel_rfl) (by kernel_rfl) (by kernel_rfl) (by kernel_rfl)) ?_
  intro W base args ds gs before hval0 hW _ _
  have hval : ∀ (j : Nat) t v, Try.f3.params[j]? = some t → args[j]? = some v → Value.okWide Try.prog W .any base t v := hval0
  have hW' := hW
  obtain ⟨p, q, hA0, hV, rfl, _, _⟩ := hW
  have hA : DataW.TrodAll enc Try.prog W 0 (fun _ => true) true Try.f3.params.toList args.toList ds p := hA0
  rw [Try.params3] at hA hval
  obtain ⟨v0, v1, d0, d1, p0, p1, rfl, rfl, rfl, h0, h1⟩ := trodAll_two hA
  obtain ⟨rfl, rfl⟩ := trodVars_none hV
  obtain ⟨M, hM, rfl, rfl, rfl⟩ := open_num (hval 0 24 v0 rfl rfl) h0
  obtain ⟨X, hX, rfl, rfl, rfl⟩ := open_wide (hval 1 26 v1 rfl rfl) h1
  clear hA0 hval0
  simp only [List.append_nil] at hW'
  refine (makes_walk M X hM hX W).mono fun e W' ⟨he, hb⟩ => ?_
  subst he
  exact ⟨_, rfl, _, _, _, [], [], [], hW', trodAll_mk1 (shut_bool Try.underlying4 true), trodAll_mk2 (shut_num W' 0 _ true M) (shut_wide W' 0 _ true X), rfl, hb.frame _, fun h => by cases h⟩

theorem FieldMakes_over : Rows.fieldMakesRow.holds Try.pinned (OpenSpec.ofChange Rows.fieldMakesSpec) :=
  OpenClaim.holds_of_wide 3 Try.f3 rfl rfl rfl rfl rfl rfl rfl ⟨rfl, rfl, rfl, rfl, rfl⟩ rfl rfl rfl rfl rfl (by kernel_rfl) Try.func3 (by kernel_rfl)
    (of_decide_eq_true (by kernel_rfl)) (by unfold Func.isWrapper; rw [if_neg (of_decide_eq_false (by kernel_rfl))]; exact ⟨rfl, rfl⟩)
    (fun os started H enc _ => FieldMakes_lifted os started H enc)

theorem FieldMakes_holds : Rows.FieldMakesSaid :=
  FieldMakes_over
end

#print axioms FieldMakes_holds
end Go.Proofs.Ytkfomfpeangcdaa
