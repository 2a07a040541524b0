/-
  FieldInverses: the inverse of any number, or that there is none, is the document's, by definition.
  No condition.
-/
import Derived.Test.YtkfomfpeangcdaaFUp
import Derived.Test.YtkfomfpeangcdaaFLaw
import Derived.Test.YtkfomfpeangcdaaLInvA
import Derived.Test.YtkfomfpeangcdaaLInvB
import Derived.Deep.RegionHeld3
namespace Go.Proofs.Ytkfomfpeangcdaa
open Go.RowKit

set_option maxRecDepth 100000 in
set_option maxHeartbeats 8000000 in
theorem inverses_walk (M : Nat) (X : Nat) (hM : M < top) (hX : X < top) (w : World) :
    Calls Try.prog 6 #[.agg #[.int .u64 (wd (M) 0), .int .u64 (wd (M) 1), .int .u64 (wd (M) 2), .int .u64 (wd (M) 3)], .agg #[.int .u64 (wd (X) 0), .int .u64 (wd (X) 1), .int .u64 (wd (X) 2), .int .u64 (wd (X) 3)]] w fun e w' => e = .returned (.bool true) ∧ Below w.heap.size w w' := by
  by_cases hg : oddB M = false
  · have hA0 : ((w.alloc (.cells #[.int .u64 (wd (M) 0), .int .u64 (wd (M) 1), .int .u64 (wd (M) 2), .int .u64 (wd (M) 3)] 24)).alloc (.cells #[.int .u64 (wd (X) 0), .int .u64 (wd (X) 1), .int .u64 (wd (X) 2), .int .u64 (wd (X) 3)] 24)).rowIs w.heap.size 24 4 (fun j => .int .u64 (wd M j)) := (row_new (n := 4) (by simp) rfl (arr4 fun j => .int .u64 (wd M j))).alloc _
    have hA1 : ((w.alloc (.cells #[.int .u64 (wd (M) 0), .int .u64 (wd (M) 1), .int .u64 (wd (M) 2), .int .u64 (wd (M) 3)] 24)).alloc (.cells #[.int .u64 (wd (X) 0), .int .u64 (wd (X) 1), .int .u64 (wd (X) 2), .int .u64 (wd (X) 3)] 24)).rowIs (w.heap.size + 1) 24 4 (fun j => .int .u64 (wd X j)) := row_new (n := 4) (by simp) rfl (arr4 fun j => .int .u64 (wd X j))
    have hbel : Below w.heap.size w ((w.alloc (.cells #[.int .u64 (wd (M) 0), .int .u64 (wd (M) 1), .int .u64 (wd (M) 2), .int .u64 (wd (M) 3)] 24)).alloc (.cells #[.int .u64 (wd (X) 0), .int .u64 (wd (X) 1), .int .u64 (wd (X) 2), .int .u64 (wd (X) 3)] 24)) := ((Below.refl _ _).alloc (by simp) _).alloc (by simp) _
    go_enter Try.func6, Try.ntmps6
    go_wp2_with fail
    refine (up_calls _).mono ?_
    rintro e w1 ⟨rfl, hb1⟩
    replace hA0 := row_below (by exact hA0) hb1 (by exact hA0.lt)
    replace hA1 := row_below (by exact hA1) hb1 (by exact hA1.lt)
    replace hbel := Below.trans (by first | exact hbel | exact hbel.drew) (hb1.mono (by exact hbel.size))
    clear hb1
    obtain ⟨m0, m1, m2, m3⟩ := row_c4 hA0
    go_wp2_with fail
    refine (new_bad M hg hM _).mono ?_
    rintro e w2 ⟨rfl, hb2⟩
    replace hA0 := row_below (by exact hA0) hb2 (by exact hA0.lt)
    replace hA1 := row_below (by exact hA1) hb2 (by exact hA1.lt)
    replace hbel := Below.trans (by first | exact hbel | exact hbel.drew) (hb2.mono (by exact hbel.size))
    clear hb2 m0 m1 m2 m3
    obtain ⟨m0, m1, m2, m3⟩ := row_c4 hA0
    have k1 := fun W => eql_err1 W
    have KO := veil (fun W => odd_calls M false hg hM W)
    clear hg
    go_wp2_with fail
    refine (KO.out _).mono ?_
    rintro e w3 ⟨rfl, hb3⟩
    replace hA0 := row_below (by exact hA0) hb3 (by exact hA0.lt)
    replace hA1 := row_below (by exact hA1) hb3 (by exact hA1.lt)
    replace hbel := Below.trans (by first | exact hbel | exact hbel.drew) (hb3.mono (by exact hbel.size))
    clear hb3 m0 m1 m2 m3
    go_wp2
    go_ret
    exact ⟨rfl, hbel⟩
  · by_cases hgc : Nat.gcd X M = 1
    · exact inverses_yes M X hM hX hg hgc w
    · exact inverses_no M X hM hX hg hgc w

/-! ### the statement -/
section
open Go.ChangeShapes Go.WideShapes Go.ChangeAt
set_option maxRecDepth 100000 in
theorem FieldInverses_lifted (os : Os) (started : os.Started) (H : Type) (enc : TypeId × Value → H) :
    ReturnsInHanded {} Try.checked os 6 .any (Rows.fieldInversesSpec.pre6 enc Try.prog Try.f6 Rows.fieldInversesRow.domain false) (Rows.fieldInversesSpec.post enc Try.prog Try.f6 false true false false) := by
  refine returnsInHanded_of_change (C := Try.checked) own started (by kernel_rfl) Try.func6
    (ChangeSpec.witness6 (enc := enc) (C := Try.checked) false ⟨#[], #[.agg #[.int .u64 0, .int .u64 0, .int .u64 0, .int .u64 0], .agg #[.int .u64 0, .int .u64 0, .int .u64 0, .int .u64 0]], []⟩ 8 (by kernel_rfl) (by kernel_rfl) (by kernel_rfl) (by kernel_rfl)) ?_
  intro W base args ds gs before hval0 hW _ _
  have hval : ∀ (j : Nat) t v, Try.f6.params[j]? = some t → args[j]? = some v → Value.okWide Try.prog W .any base t v := hval0
  have hW' := hW
  obtain ⟨p, q, hA0, hV, rfl, _, _⟩ := hW
  have hA : DataW.TrodAll enc Try.prog W 0 (fun _ => true) true Try.f6.params.toList args.toList ds p := hA0
  rw [Try.params6] at hA hval
  obtain ⟨v0, v1, d0, d1, p0, p1, rfl, rfl, rfl, h0, h1⟩ := trodAll_two hA
  obtain ⟨rfl, rfl⟩ := trodVars_none hV
  obtain ⟨M, hM, rfl, rfl, rfl⟩ := open_num (hval 0 24 v0 rfl rfl) h0
  obtain ⟨X, hX, rfl, rfl, rfl⟩ := open_num (hval 1 24 v1 rfl rfl) h1
  clear hA0 hval0
  simp only [List.append_nil] at hW'
  refine (inverses_walk M X hM hX W).mono fun e W' ⟨he, hb⟩ => ?_
  subst he
  exact ⟨_, rfl, _, _, _, [], [], [], hW', trodAll_mk1 (shut_bool Try.underlying4 true), trodAll_mk2 (shut_num W' 0 _ true M) (shut_num W' 0 _ true X), rfl, hb.frame _, fun h => by cases h⟩

theorem FieldInverses_over : Rows.fieldInversesRow.holds Try.pinned (OpenSpec.ofChange Rows.fieldInversesSpec) :=
  OpenClaim.holds_of_wide 6 Try.f6 rfl rfl rfl rfl rfl rfl rfl ⟨rfl, rfl, rfl, rfl, rfl⟩ rfl rfl rfl rfl rfl (by kernel_rfl) Try.func6 (by kernel_rfl)
    (of_decide_eq_true (by kernel_rfl)) (by unfold Func.isWrapper; rw [if_neg (of_decide_eq_false (by kernel_rfl))]; exact ⟨rfl, rfl⟩)
    (fun os started H enc _ => FieldInverses_lifted os started H enc)

theorem FieldInverses_holds : Rows.FieldInversesSaid :=
  FieldInverses_over
end

#print axioms FieldInverses_holds
end Go.Proofs.Ytkfomfpeangcdaa
