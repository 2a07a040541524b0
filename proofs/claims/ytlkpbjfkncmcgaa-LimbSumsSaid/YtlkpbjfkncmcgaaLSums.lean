/-
  LimbSums: for any two numbers the program's sum, difference and order are the document's, by definition.
  No condition.
-/
import Derived.Test.YtlkpbjfkncmcgaaAdd
import Derived.Test.YtlkpbjfkncmcgaaSub
import Derived.Test.YtlkpbjfkncmcgaaRAdd
import Derived.Test.YtlkpbjfkncmcgaaRSub
import Derived.Test.YtlkpbjfkncmcgaaCmp
import Derived.Test.YtlkpbjfkncmcgaaEql
import Derived.Test.YtlkpbjfkncmcgaaUp
import Derived.Test.YtlkpbjfkncmcgaaFrame
import Derived.Deep.RegionHeld3
namespace Go.Proofs.Ytlkpbjfkncmcgaa
open Go.RowKit

set_option maxHeartbeats 1000000 in
theorem sums_walk (X Y : Nat) (hX : X < top) (hY : Y < top) (w : World) :
    Calls Try.prog 3 #[.agg #[.int .u64 (wd (X) 0), .int .u64 (wd (X) 1), .int .u64 (wd (X) 2), .int .u64 (wd (X) 3)], .agg #[.int .u64 (wd (Y) 0), .int .u64 (wd (Y) 1), .int .u64 (wd (Y) 2), .int .u64 (wd (Y) 3)]] w fun e w' => e = .returned (.bool true) ∧ Below w.heap.size w w' := by
  have hRA : ((w.alloc (.cells #[.int .u64 (wd (X) 0), .int .u64 (wd (X) 1), .int .u64 (wd (X) 2), .int .u64 (wd (X) 3)] 24)).alloc (.cells #[.int .u64 (wd (Y) 0), .int .u64 (wd (Y) 1), .int .u64 (wd (Y) 2), .int .u64 (wd (Y) 3)] 24)).rowIs w.heap.size 24 4 (fun j => .int .u64 (wd X j)) := (row_new (n := 4) (by simp) rfl (arr4 fun j => .int .u64 (wd X j))).alloc _
  have hRB : ((w.alloc (.cells #[.int .u64 (wd (X) 0), .int .u64 (wd (X) 1), .int .u64 (wd (X) 2), .int .u64 (wd (X) 3)] 24)).alloc (.cells #[.int .u64 (wd (Y) 0), .int .u64 (wd (Y) 1), .int .u64 (wd (Y) 2), .int .u64 (wd (Y) 3)] 24)).rowIs (w.heap.size + 1) 24 4 (fun j => .int .u64 (wd Y j)) := row_new (n := 4) (by simp) rfl (arr4 fun j => .int .u64 (wd Y j))
  have hB0 : Below w.heap.size w ((w.alloc (.cells #[.int .u64 (wd (X) 0), .int .u64 (wd (X) 1), .int .u64 (wd (X) 2), .int .u64 (wd (X) 3)] 24)).alloc (.cells #[.int .u64 (wd (Y) 0), .int .u64 (wd (Y) 1), .int .u64 (wd (Y) 2), .int .u64 (wd (Y) 3)] 24)) := ((Below.refl _ _).alloc (by simp) _).alloc (by simp) _
  go_enter Try.func3, Try.ntmps3
  go_wp2_with fail
  refine (up_calls _).mono ?_
  rintro e w1 ⟨rfl, hb1⟩
  have hRA1 := row_below hRA hb1 hRA.lt
  have hRB1 := row_below hRB hb1 hRB.lt
  have hB1 := hB0.trans (hb1.mono hB0.size)
  clear hRA hRB hB0 hb1
  obtain ⟨a0, a1, a2, a3⟩ := row_c4 hRA1
  obtain ⟨b0, b1, b2, b3⟩ := row_c4 hRB1
  go_wp2_with fail
  refine (add_calls X Y hX hY _).mono ?_
  rintro e w2 ⟨rfl, hb2⟩
  clear a0 a1 a2 a3 b0 b1 b2 b3
  have hRA2 := row_below hRA1 hb2 hRA1.lt
  have hRB2 := row_below hRB1 hb2 hRB1.lt
  have hB2 := hB1.trans (hb2.mono hB1.size)
  clear hRA1 hRB1 hB1 hb2
  obtain ⟨a0, a1, a2, a3⟩ := row_c4 hRA2
  obtain ⟨b0, b1, b2, b3⟩ := row_c4 hRB2
  have s1 := hRA2.lt
  have s2 := hRB2.lt
  go_wp2_with fail
  refine (sub_calls X Y hX hY _).mono ?_
  rintro e w3 ⟨rfl, hb3⟩
  clear a0 a1 a2 a3 b0 b1 b2 b3
  have hS : (w2.alloc (.cells #[.int .u64 (wd ((X + Y) % top) 0), .int .u64 (wd ((X + Y) % top) 1), .int .u64 (wd ((X + Y) % top) 2), .int .u64 (wd ((X + Y) % top) 3)] 24)).rowIs w2.heap.size 24 4 (fun j => .int .u64 (wd ((X + Y) % top) j)) := row_new (n := 4) rfl rfl (arr4 fun j => .int .u64 (wd ((X + Y) % top) j))
  have hS3 := row_below hS hb3 hS.lt
  have hRA3 := row_below (hRA2.alloc _) hb3 (hRA2.alloc _).lt
  have hRB3 := row_below (hRB2.alloc _) hb3 (hRB2.alloc _).lt
  have hB3 := (hB2.alloc hB2.size _).trans (hb3.mono (hB2.alloc hB2.size _).size)
  clear hRA2 hRB2 hB2 hb3 hS
  obtain ⟨a0, a1, a2, a3⟩ := row_c4 hRA3
  obtain ⟨b0, b1, b2, b3⟩ := row_c4 hRB3
  have s1 := hRA3.lt
  have s2 := hRB3.lt
  go_wp2_with fail
  refine (radd_calls X Y hX hY _).mono ?_
  rintro e w4 ⟨rfl, hb4⟩
  clear a0 a1 a2 a3 b0 b1 b2 b3
  have hD : (w3.alloc (.cells #[.int .u64 (wd ((X + top - Y) % top) 0), .int .u64 (wd ((X + top - Y) % top) 1), .int .u64 (wd ((X + top - Y) % top) 2), .int .u64 (wd ((X + top - Y) % top) 3)] 24)).rowIs w3.heap.size 24 4 (fun j => .int .u64 (wd ((X + top - Y) % top) j)) := row_new (n := 4) rfl rfl (arr4 fun j => .int .u64 (wd ((X + top - Y) % top) j))
  have hD4 := row_below hD hb4 hD.lt
  have hS4 := row_below (hS3.alloc _) hb4 (hS3.alloc _).lt
  have hRA4 := row_below (hRA3.alloc _) hb4 (hRA3.alloc _).lt
  have hRB4 := row_below (hRB3.alloc _) hb4 (hRB3.alloc _).lt
  have hB4 := (hB3.alloc hB3.size _).trans (hb4.mono (hB3.alloc hB3.size _).size)
  clear hRA3 hRB3 hB3 hb4 hS3 hD
  obtain ⟨a0, a1, a2, a3⟩ := row_c4 hRA4
  obtain ⟨b0, b1, b2, b3⟩ := row_c4 hRB4
  have s3 := hRA4.lt
  have s4 := hRB4.lt
  go_wp2_with fail
  refine (rsub_calls X Y hX hY _).mono ?_
  rintro e w5 ⟨rfl, hb5⟩
  clear a0 a1 a2 a3 b0 b1 b2 b3
  have hT : (w4.alloc (.cells #[.int .u64 (wd ((X + Y) % top) 0), .int .u64 (wd ((X + Y) % top) 1), .int .u64 (wd ((X + Y) % top) 2), .int .u64 (wd ((X + Y) % top) 3)] 24)).rowIs w4.heap.size 24 4 (fun j => .int .u64 (wd ((X + Y) % top) j)) := row_new (n := 4) rfl rfl (arr4 fun j => .int .u64 (wd ((X + Y) % top) j))
  have hT5 := row_below hT hb5 hT.lt
  have hD5 := row_below (hD4.alloc _) hb5 (hD4.alloc _).lt
  have hS5 := row_below (hS4.alloc _) hb5 (hS4.alloc _).lt
  have hRA5 := row_below (hRA4.alloc _) hb5 (hRA4.alloc _).lt
  have hRB5 := row_below (hRB4.alloc _) hb5 (hRB4.alloc _).lt
  have hB5 := (hB4.alloc hB4.size _).trans (hb5.mono (hB4.alloc hB4.size _).size)
  clear hRA4 hRB4 hB4 hb5 hS4 hD4 hT
  have hU6 : (w5.alloc (.cells #[.int .u64 (wd ((X + top - Y) % top) 0), .int .u64 (wd ((X + top - Y) % top) 1), .int .u64 (wd ((X + top - Y) % top) 2), .int .u64 (wd ((X + top - Y) % top) 3)] 24)).rowIs w5.heap.size 24 4 (fun j => .int .u64 (wd ((X + top - Y) % top) j)) := row_new (n := 4) rfl rfl (arr4 fun j => .int .u64 (wd ((X + top - Y) % top) j))
  have hT6 := hT5.alloc (.cells #[.int .u64 (wd ((X + top - Y) % top) 0), .int .u64 (wd ((X + top - Y) % top) 1), .int .u64 (wd ((X + top - Y) % top) 2), .int .u64 (wd ((X + top - Y) % top) 3)] 24)
  have hD6 := hD5.alloc (.cells #[.int .u64 (wd ((X + top - Y) % top) 0), .int .u64 (wd ((X + top - Y) % top) 1), .int .u64 (wd ((X + top - Y) % top) 2), .int .u64 (wd ((X + top - Y) % top) 3)] 24)
  have hS6 := hS5.alloc (.cells #[.int .u64 (wd ((X + top - Y) % top) 0), .int .u64 (wd ((X + top - Y) % top) 1), .int .u64 (wd ((X + top - Y) % top) 2), .int .u64 (wd ((X + top - Y) % top) 3)] 24)
  have hRA6 := hRA5.alloc (.cells #[.int .u64 (wd ((X + top - Y) % top) 0), .int .u64 (wd ((X + top - Y) % top) 1), .int .u64 (wd ((X + top - Y) % top) 2), .int .u64 (wd ((X + top - Y) % top) 3)] 24)
  have hRB6 := hRB5.alloc (.cells #[.int .u64 (wd ((X + top - Y) % top) 0), .int .u64 (wd ((X + top - Y) % top) 1), .int .u64 (wd ((X + top - Y) % top) 2), .int .u64 (wd ((X + top - Y) % top) 3)] 24)
  have hB6 := hB5.alloc hB5.size (.cells #[.int .u64 (wd ((X + top - Y) % top) 0), .int .u64 (wd ((X + top - Y) % top) 1), .int .u64 (wd ((X + top - Y) % top) 2), .int .u64 (wd ((X + top - Y) % top) 3)] 24)
  clear hRA5 hRB5 hB5 hS5 hD5 hT5
  go_wp2
  generalize w5.alloc (.cells #[.int .u64 (wd ((X + top - Y) % top) 0), .int .u64 (wd ((X + top - Y) % top) 1), .int .u64 (wd ((X + top - Y) % top) 2), .int .u64 (wd ((X + top - Y) % top) 3)] 24) = wz at *
  obtain ⟨a0, a1, a2, a3⟩ := row_c4 hRA6
  obtain ⟨b0, b1, b2, b3⟩ := row_c4 hRB6
  obtain ⟨p0, p1, p2, p3⟩ := row_c4 hS6
  obtain ⟨q0, q1, q2, q3⟩ := row_c4 hD6
  obtain ⟨r0, r1, r2, r3⟩ := row_c4 hT6
  obtain ⟨u0, u1, u2, u3⟩ := row_c4 hU6
  have z1 := hRA6.lt
  have z2 := hRB6.lt
  have z3 := hS6.lt
  have z4 := hD6.lt
  have z5 := hT6.lt
  have z6 := hU6.lt
  have k1 := fun W => eql_num_same ((X + Y) % top) W
  have k2 := fun W => eql_num_same ((X + top - Y) % top) W
  clear hRA6 hRB6 hS6 hD6 hT6 hU6
  clear s1 s2 s3 s4
  generalize (X + Y) % top = S at *
  generalize (X + top - Y) % top = D at *
  as_aux_lemma =>
  go_region_held3 (fun w' => (∀ b o, b < wz.heap.size → w'.cell? ⟨b, o, none⟩ = wz.cell? ⟨b, o, none⟩) ∧ Below wz.heap.size wz w')
    (first
      | exact keep_drew _
      | exact keep_old (by assumption) (by assumption))
    (first
      | (go_at_call 15; refine (cmp_calls X Y hX hY _).mono ?_; rintro e w' ⟨rfl, hb'⟩)
      | (go_at_call 16; refine (rcmp_calls X Y hX hY _).mono ?_; rintro e w' ⟨rfl, hb'⟩))
  all_goals
    go_wp2
    go_ret
    have hh := (by assumption : _ ∧ Below wz.heap.size wz _)
    exact ⟨rfl, hB6.trans (hh.2.mono hB6.size)⟩

/-! ### the statement -/
section
open Go.ChangeShapes Go.WideShapes Go.ChangeAt
set_option maxRecDepth 100000 in
theorem LimbSums_lifted (os : Os) (started : os.Started) (H : Type) (enc : TypeId × Value → H) :
    ReturnsInHanded {} Try.checked os 3 .any (Rows.limbSumsSpec.pre6 enc Try.prog Try.f3 Rows.limbSumsRow.domain false) (Rows.limbSumsSpec.post enc Try.prog Try.f3 false true false false) := by
  refine returnsInHanded_of_change (C := Try.checked) own started (by kernel_rfl) Try.func3
    (ChangeSpec.witness6 (enc := enc) (C := Try.checked) false ⟨#[], #[.agg #[.int .u64 0, .int .u64 0, .int .u64 0, .int .u64 0], .agg #[.int .u64 0, .int .u64 0, .int .u64 0, .int .u64 0]], []⟩ 8 (by kernel_rfl) (by kernel_rfl) (by kernel_rfl) (by kernel_rfl)) ?_
  intro W base args ds gs before hval0 hW _ _
  have hval : ∀ (j : Nat) t v, Try.f3.params[j]? = some t → args[j]? = some v → Value.okWide Try.prog W .any base t v := hval0
  have hW' := hW
  obtain ⟨p, q, hA0, hV, rfl, _, _⟩ := hW
  have hA : DataW.TrodAll enc Try.prog W 0 (fun _ => true) true Try.f3.params.toList args.toList ds p := hA0
  rw [Try.params3] at hA hval
  obtain ⟨v0, v1, d0, d1, p0, p1, rfl, rfl, rfl, h0, h1⟩ := trodAll_two hA
  obtain ⟨rfl, rfl⟩ := trodVars_none hV
  obtain ⟨X, hX, rfl, rfl, rfl⟩ := open_num (hval 0 24 v0 rfl rfl) h0
  obtain ⟨Y, hY, rfl, rfl, rfl⟩ := open_num (hval 1 24 v1 rfl rfl) h1
  clear hA0 hval0
  simp only [List.append_nil] at hW'
  refine (sums_walk X Y hX hY W).mono fun e W' ⟨he, hb⟩ => ?_
  subst he
  exact ⟨_, rfl, _, _, _, [], [], [], hW', trodAll_mk1 (shut_bool Try.underlying4 true), trodAll_mk2 (shut_num W' 0 _ true X) (shut_num W' 0 _ true Y), rfl, hb.frame _, fun h => by cases h⟩

theorem LimbSums_over : Rows.limbSumsRow.holds Try.pinned (OpenSpec.ofChange Rows.limbSumsSpec) :=
  OpenClaim.holds_of_wide 3 Try.f3 rfl rfl rfl rfl rfl rfl rfl ⟨rfl, rfl, rfl, rfl, rfl⟩ rfl rfl rfl rfl rfl (by kernel_rfl) Try.func3 (by kernel_rfl)
    (of_decide_eq_true (by kernel_rfl)) (by unfold Func.isWrapper; rw [if_neg (of_decide_eq_false (by kernel_rfl))]; exact ⟨rfl, rfl⟩)
    (fun os started H enc _ => LimbSums_lifted os started H enc)

theorem LimbSums_holds : Rows.LimbSumsSaid :=
  LimbSums_over
end

#print axioms LimbSums_holds
end Go.Proofs.Ytlkpbjfkncmcgaa
