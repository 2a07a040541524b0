/-
  LimbProducts: the product of any two numbers is the document's, by definition.
  No condition.
-/
import Derived.Test.YtlkpbjfkncmcgaaMul
import Derived.Test.YtlkpbjfkncmcgaaRMul
import Derived.Test.YtlkpbjfkncmcgaaUp
import Derived.Test.YtlkpbjfkncmcgaaEql
import Derived.Test.YtlkpbjfkncmcgaaFrame
import Derived.Deep.RegionHeld3
namespace Go.Proofs.Ytlkpbjfkncmcgaa
open Go.RowKit

set_option maxHeartbeats 4000000 in
theorem products_walk (X Y : Nat) (hX : X < top) (hY : Y < top) (w : World) :
    Calls Try.prog 4 #[.agg #[.int .u64 (wd (X) 0), .int .u64 (wd (X) 1), .int .u64 (wd (X) 2), .int .u64 (wd (X) 3)], .agg #[.int .u64 (wd (Y) 0), .int .u64 (wd (Y) 1), .int .u64 (wd (Y) 2), .int .u64 (wd (Y) 3)]] w fun e w' => e = .returned (.bool true) ∧ Below w.heap.size w w' := by
  have hRA : ((w.alloc (.cells #[.int .u64 (wd (X) 0), .int .u64 (wd (X) 1), .int .u64 (wd (X) 2), .int .u64 (wd (X) 3)] 24)).alloc (.cells #[.int .u64 (wd (Y) 0), .int .u64 (wd (Y) 1), .int .u64 (wd (Y) 2), .int .u64 (wd (Y) 3)] 24)).rowIs w.heap.size 24 4 (fun j => .int .u64 (wd X j)) := (row_new (n := 4) (by simp) rfl (arr4 fun j => .int .u64 (wd X j))).alloc _
  have hRB : ((w.alloc (.cells #[.int .u64 (wd (X) 0), .int .u64 (wd (X) 1), .int .u64 (wd (X) 2), .int .u64 (wd (X) 3)] 24)).alloc (.cells #[.int .u64 (wd (Y) 0), .int .u64 (wd (Y) 1), .int .u64 (wd (Y) 2), .int .u64 (wd (Y) 3)] 24)).rowIs (w.heap.size + 1) 24 4 (fun j => .int .u64 (wd Y j)) := row_new (n := 4) (by simp) rfl (arr4 fun j => .int .u64 (wd Y j))
  have hB0 : Below w.heap.size w ((w.alloc (.cells #[.int .u64 (wd (X) 0), .int .u64 (wd (X) 1), .int .u64 (wd (X) 2), .int .u64 (wd (X) 3)] 24)).alloc (.cells #[.int .u64 (wd (Y) 0), .int .u64 (wd (Y) 1), .int .u64 (wd (Y) 2), .int .u64 (wd (Y) 3)] 24)) := ((Below.refl _ _).alloc (by simp) _).alloc (by simp) _
  go_enter Try.func4, Try.ntmps4
  go_wp2_with fail
  refine (up_calls _).mono ?_
  rintro e wz ⟨rfl, hb1⟩
  have hRA1 := row_below hRA hb1 hRA.lt
  have hRB1 := row_below hRB hb1 hRB.lt
  have hB1 := hB0.trans (hb1.mono hB0.size)
  clear hRA hRB hB0 hb1
  obtain ⟨a0, a1, a2, a3⟩ := row_c4 hRA1
  obtain ⟨b0, b1, b2, b3⟩ := row_c4 hRB1
  have z1 := hRA1.lt
  have z2 := hRB1.lt
  have k1 := fun W => eql_wide_same (X * Y) W
  clear hRA1 hRB1
  go_wp2
  as_aux_lemma =>
  go_region_held3 (fun w' => (∀ b o, b < wz.heap.size → w'.cell? ⟨b, o, none⟩ = wz.cell? ⟨b, o, none⟩) ∧ Below wz.heap.size wz w')
    (first
      | exact keep_drew _
      | exact keep_old (by assumption) (by assumption))
    (first
      | (go_at_call 17; refine (mul_calls X Y hX hY _).mono ?_; rintro e w' ⟨rfl, hb'⟩)
      | (go_at_call 18; refine (rmul_calls X Y hX hY _).mono ?_; rintro e w' ⟨rfl, hb'⟩))
  all_goals
    go_wp2
    go_ret
    have hh := (by assumption : _ ∧ Below wz.heap.size wz _)
    exact ⟨rfl, hB1.trans (hh.2.mono hB1.size)⟩

/-! ### the statement -/
section
open Go.ChangeShapes Go.WideShapes Go.ChangeAt
set_option maxRecDepth 100000 in
theorem LimbProducts_lifted (os : Os) (started : os.Started) (H : Type) (enc : TypeId × Value → H) :
    ReturnsInHanded {} Try.checked os 4 .any (Rows.limbProductsSpec.pre6 enc Try.prog Try.f4 Rows.limbProductsRow.domain false) (Rows.limbProductsSpec.post enc Try.prog Try.f4 false true false false) := by
  refine returnsInHanded_of_change (C := Try.checked) own started (by kernel_rfl) Try.func4
    (ChangeSpec.witness6 (enc := enc) (C := Try.checked) false ⟨#[], #[.agg #[.int .u64 0, .int .u64 0, .int .u64 0, .int .u64 0], .agg #[.int .u64 0, .int .u64 0, .int .u64 0, .int .u64 0]], []⟩ 8 (by kernel_rfl) (by kernel_rfl) (by kernel_rfl) (by kernel_rfl)) ?_
  intro W base args ds gs before hval0 hW _ _
  have hval : ∀ (j : Nat) t v, Try.f4.params[j]? = some t → args[j]? = some v → Value.okWide Try.prog W .any base t v := hval0
  have hW' := hW
  obtain ⟨p, q, hA0, hV, rfl, _, _⟩ := hW
  have hA : DataW.TrodAll enc Try.prog W 0 (fun _ => true) true Try.f4.params.toList args.toList ds p := hA0
  rw [Try.params4] at hA hval
  obtain ⟨v0, v1, d0, d1, p0, p1, rfl, rfl, rfl, h0, h1⟩ := trodAll_two hA
  obtain ⟨rfl, rfl⟩ := trodVars_none hV
  obtain ⟨X, hX, rfl, rfl, rfl⟩ := open_num (hval 0 24 v0 rfl rfl) h0
  obtain ⟨Y, hY, rfl, rfl, rfl⟩ := open_num (hval 1 24 v1 rfl rfl) h1
  clear hA0 hval0
  simp only [List.append_nil] at hW'
  refine (products_walk X Y hX hY W).mono fun e W' ⟨he, hb⟩ => ?_
  subst he
  exact ⟨_, rfl, _, _, _, [], [], [], hW', trodAll_mk1 (shut_bool Try.underlying4 true), trodAll_mk2 (shut_num W' 0 _ true X) (shut_num W' 0 _ true Y), rfl, hb.frame _, fun h => by cases h⟩

theorem LimbProducts_over : Rows.limbProductsRow.holds Try.pinned (OpenSpec.ofChange Rows.limbProductsSpec) :=
  OpenClaim.holds_of_wide 4 Try.f4 rfl rfl rfl rfl rfl rfl rfl ⟨rfl, rfl, rfl, rfl, rfl⟩ rfl rfl rfl rfl rfl (by kernel_rfl) Try.func4 (by kernel_rfl)
    (of_decide_eq_true (by kernel_rfl)) (by unfold Func.isWrapper; rw [if_neg (of_decide_eq_false (by kernel_rfl))]; exact ⟨rfl, rfl⟩)
    (fun os started H enc _ => LimbProducts_lifted os started H enc)

theorem LimbProducts_holds : Rows.LimbProductsSaid :=
  LimbProducts_over
end

#print axioms LimbProducts_holds
end Go.Proofs.Ytlkpbjfkncmcgaa
