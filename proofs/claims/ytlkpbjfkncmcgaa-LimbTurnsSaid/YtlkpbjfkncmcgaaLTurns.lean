/-
  LimbTurns: a product is the same in both orders; by 1 it is the number itself; by 0 nothing.
  No condition.
-/
import Derived.Test.YtlkpbjfkncmcgaaMul
import Derived.Test.YtlkpbjfkncmcgaaUp
import Derived.Test.YtlkpbjfkncmcgaaEql
import Derived.Test.YtlkpbjfkncmcgaaFrame
import Derived.Deep.RegionHeld3
namespace Go.Proofs.Ytlkpbjfkncmcgaa
open Go.RowKit

theorem wd_high {X : Nat} (hX : X < top) (i : Nat) (hi : 4 ≤ i) : wd X i = 0 := by
  unfold wd dg
  rw [Nat.div_eq_of_lt (Nat.lt_of_lt_of_le hX (Nat.pow_le_pow_right w64_pos hi))]
  rfl
theorem mul_one_calls (X : Nat) (hX : X < top) (w : World) :
    Calls Try.prog 17 #[.agg #[.int .u64 (wd (X) 0), .int .u64 (wd (X) 1), .int .u64 (wd (X) 2), .int .u64 (wd (X) 3)], .agg #[.int .u64 1, .int .u64 0, .int .u64 0, .int .u64 0]] w fun e w' => e = .returned (.agg #[.int .u64 (wd X 0), .int .u64 (wd X 1), .int .u64 (wd X 2), .int .u64 (wd X 3), .int .u64 0, .int .u64 0, .int .u64 0, .int .u64 0]) ∧ Below w.heap.size w w' := by
  have h := mul_calls X 1 hX (by decide) w
  have b0 : wd 1 0 = 1 := by decide
  have b1 : wd 1 1 = 0 := by decide
  have b2 : wd 1 2 = 0 := by decide
  have b3 : wd 1 3 = 0 := by decide
  rw [b0, b1, b2, b3, Nat.mul_one, wd_high hX 4 (by omega), wd_high hX 5 (by omega), wd_high hX 6 (by omega), wd_high hX 7 (by omega)] at h
  exact h
theorem mul_zero_calls (X : Nat) (hX : X < top) (w : World) :
    Calls Try.prog 17 #[.agg #[.int .u64 (wd (X) 0), .int .u64 (wd (X) 1), .int .u64 (wd (X) 2), .int .u64 (wd (X) 3)], .agg #[.int .u64 0, .int .u64 0, .int .u64 0, .int .u64 0]] w fun e w' => e = .returned (.agg #[.int .u64 0, .int .u64 0, .int .u64 0, .int .u64 0, .int .u64 0, .int .u64 0, .int .u64 0, .int .u64 0]) ∧ Below w.heap.size w w' := by
  have h := mul_calls X 0 hX top_pos w
  simp only [Nat.mul_zero, wd_zero] at h
  exact h
theorem eql_wlit (a b c d e f g h : Int) (w : World) : (binOp .eql 31 (.agg #[.int .u64 a, .int .u64 b, .int .u64 c, .int .u64 d, .int .u64 e, .int .u64 f, .int .u64 g, .int .u64 h])
    (.agg #[.int .u64 a, .int .u64 b, .int .u64 c, .int .u64 d, .int .u64 e, .int .u64 f, .int .u64 g, .int .u64 h])).run Try.prog w = .ok (.bool true) w := by
  have hh := eql8 (fun i => match i with | 0 => a | 1 => b | 2 => c | 3 => d | 4 => e | 5 => f | 6 => g | _ => h) (fun i => match i with | 0 => a | 1 => b | 2 => c | 3 => d | 4 => e | 5 => f | 6 => g | _ => h) w
  simp only [BEq.rfl] at hh
  exact hh

set_option maxHeartbeats 4000000 in
theorem turns_walk (X Y : Nat) (hX : X < top) (hY : Y < top) (w : World) :
    Calls Try.prog 9 #[.agg #[.int .u64 (wd (X) 0), .int .u64 (wd (X) 1), .int .u64 (wd (X) 2), .int .u64 (wd (X) 3)], .agg #[.int .u64 (wd (Y) 0), .int .u64 (wd (Y) 1), .int .u64 (wd (Y) 2), .int .u64 (wd (Y) 3)]] w fun e w' => e = .returned (.bool true) ∧ Below w.heap.size w w' := by
  have hRA : ((w.alloc (.cells #[.int .u64 (wd (X) 0), .int .u64 (wd (X) 1), .int .u64 (wd (X) 2), .int .u64 (wd (X) 3)] 24)).alloc (.cells #[.int .u64 (wd (Y) 0), .int .u64 (wd (Y) 1), .int .u64 (wd (Y) 2), .int .u64 (wd (Y) 3)] 24)).rowIs w.heap.size 24 4 (fun j => .int .u64 (wd X j)) := (row_new (n := 4) (by simp) rfl (arr4 fun j => .int .u64 (wd X j))).alloc _
  have hRB : ((w.alloc (.cells #[.int .u64 (wd (X) 0), .int .u64 (wd (X) 1), .int .u64 (wd (X) 2), .int .u64 (wd (X) 3)] 24)).alloc (.cells #[.int .u64 (wd (Y) 0), .int .u64 (wd (Y) 1), .int .u64 (wd (Y) 2), .int .u64 (wd (Y) 3)] 24)).rowIs (w.heap.size + 1) 24 4 (fun j => .int .u64 (wd Y j)) := row_new (n := 4) (by simp) rfl (arr4 fun j => .int .u64 (wd Y j))
  have hB0 : Below w.heap.size w ((w.alloc (.cells #[.int .u64 (wd (X) 0), .int .u64 (wd (X) 1), .int .u64 (wd (X) 2), .int .u64 (wd (X) 3)] 24)).alloc (.cells #[.int .u64 (wd (Y) 0), .int .u64 (wd (Y) 1), .int .u64 (wd (Y) 2), .int .u64 (wd (Y) 3)] 24)) := ((Below.refl _ _).alloc (by simp) _).alloc (by simp) _
  go_enter Try.func9, Try.ntmps9
  go_wp2_with fail
  refine (up_calls _).mono ?_
  rintro e wz ⟨rfl, hb1⟩
  have hRA1 := row_below hRA hb1 hRA.lt
  have hRB1 := row_below hRB hb1 hRB.lt
  have hB1 := hB0.trans (hb1.mono hB0.size)
  clear hRA hRB hB0 hb1
  obtain ⟨a0, a1, a2, a3⟩ := row_c4 hRA1
  obtain ⟨b0, b1, b2, b3⟩ := row_c4 hRB1
  have z1 := hRA1.lt
  have z2 := hRB1.lt
  have k1 : ∀ W, (binOp .eql 31 (.agg #[.int .u64 (wd (X * Y) 0), .int .u64 (wd (X * Y) 1), .int .u64 (wd (X * Y) 2), .int .u64 (wd (X * Y) 3), .int .u64 (wd (X * Y) 4), .int .u64 (wd (X * Y) 5), .int .u64 (wd (X * Y) 6), .int .u64 (wd (X * Y) 7)]) (.agg #[.int .u64 (wd (Y * X) 0), .int .u64 (wd (Y * X) 1), .int .u64 (wd (Y * X) 2), .int .u64 (wd (Y * X) 3), .int .u64 (wd (Y * X) 4), .int .u64 (wd (Y * X) 5), .int .u64 (wd (Y * X) 6), .int .u64 (wd (Y * X) 7)])).run Try.prog W = .ok (.bool true) W := fun W => by rw [Nat.mul_comm Y X]; exact eql_wide_same (X * Y) W
  have k2 := fun W => eql_wlit (wd X 0) (wd X 1) (wd X 2) (wd X 3) 0 0 0 0 W
  have k3 := fun W => eql_wlit 0 0 0 0 0 0 0 0 W
  clear hRA1 hRB1
  go_wp2
  as_aux_lemma =>
  go_region_held3 (fun w' => (∀ b o, b < wz.heap.size → w'.cell? ⟨b, o, none⟩ = wz.cell? ⟨b, o, none⟩) ∧ Below wz.heap.size wz w')
    (first
      | exact keep_drew _
      | exact keep_old (by assumption) (by assumption))
    (first
      | (go_at_call_of 17 (Value.agg #[.int .u64 1, .int .u64 0, .int .u64 0, .int .u64 0]); refine (mul_one_calls X hX _).mono ?_; rintro e w' ⟨rfl, hb'⟩)
      | (go_at_call_of 17 (Value.agg #[.int .u64 0, .int .u64 0, .int .u64 0, .int .u64 0]); refine (mul_zero_calls X hX _).mono ?_; rintro e w' ⟨rfl, hb'⟩)
      | (go_at_call 17; refine (mul_calls _ _ (by assumption) (by assumption) _).mono ?_; rintro e w' ⟨rfl, hb'⟩))
  all_goals
    go_wp2
    go_ret
    have hh := (by assumption : _ ∧ Below wz.heap.size wz _)
    exact ⟨rfl, hB1.trans (hh.2.mono hB1.size)⟩

/-! ### the statement -/
section
open Go.ChangeShapes Go.WideShapes Go.ChangeAt
set_option maxRecDepth 100000 in
theorem LimbTurns_lifted (os : Os) (started : os.Started) (H : Type) (enc : TypeId × Value → H) :
    ReturnsInHanded {} Try.checked os 9 .any (Rows.limbTurnsSpec.pre6 enc Try.prog Try.f9 Rows.limbTurnsRow.domain false) (Rows.limbTurnsSpec.post enc Try.prog Try.f9 false true false false) := by
  refine returnsInHanded_of_change (C := Try.checked) own started (by kernel_rfl) Try.func9
    (ChangeSpec.witness6 (enc := enc) (C := Try.checked) false ⟨#[], #[.agg #[.int .u64 0, .int .u64 0, .int .u64 0, .int .u64 0], .agg #[.int .u64 0, .int .u64 0, .int .u64 0, .int .u64 0]], []⟩ 8 (by kernel_rfl) (by kernel_rfl) (by kernel_rfl) (by kernel_rfl)) ?_
  intro W base args ds gs before hval0 hW _ _
  have hval : ∀ (j : Nat) t v, Try.f9.params[j]? = some t → args[j]? = some v → Value.okWide Try.prog W .any base t v := hval0
  have hW' := hW
  obtain ⟨p, q, hA0, hV, rfl, _, _⟩ := hW
  have hA : DataW.TrodAll enc Try.prog W 0 (fun _ => true) true Try.f9.params.toList args.toList ds p := hA0
  rw [Try.params9] at hA hval
  obtain ⟨v0, v1, d0, d1, p0, p1, rfl, rfl, rfl, h0, h1⟩ := trodAll_two hA
  obtain ⟨rfl, rfl⟩ := trodVars_none hV
  obtain ⟨X, hX, rfl, rfl, rfl⟩ := open_num (hval 0 24 v0 rfl rfl) h0
  obtain ⟨Y, hY, rfl, rfl, rfl⟩ := open_num (hval 1 24 v1 rfl rfl) h1
  clear hA0 hval0
  simp only [List.append_nil] at hW'
  refine (turns_walk X Y hX hY W).mono fun e W' ⟨he, hb⟩ => ?_
  subst he
  exact ⟨_, rfl, _, _, _, [], [], [], hW', trodAll_mk1 (shut_bool Try.underlying4 true), trodAll_mk2 (shut_num W' 0 _ true X) (shut_num W' 0 _ true Y), rfl, hb.frame _, fun h => by cases h⟩

theorem LimbTurns_over : Rows.limbTurnsRow.holds Try.pinned (OpenSpec.ofChange Rows.limbTurnsSpec) :=
  OpenClaim.holds_of_wide 9 Try.f9 rfl rfl rfl rfl rfl rfl rfl ⟨rfl, rfl, rfl, rfl, rfl⟩ rfl rfl rfl rfl rfl (by kernel_rfl) Try.func9 (by kernel_rfl)
    (of_decide_eq_true (by kernel_rfl)) (by unfold Func.isWrapper; rw [if_neg (of_decide_eq_false (by kernel_rfl))]; exact ⟨rfl, rfl⟩)
    (fun os started H enc _ => LimbTurns_lifted os started H enc)

theorem LimbTurns_holds : Rows.LimbTurnsSaid :=
  LimbTurns_over
end

#print axioms LimbTurns_holds
end Go.Proofs.Ytlkpbjfkncmcgaa
