/-
  FieldRing: products are the same in both orders, and however they are put together; a product with a sum is the sum of products.
  No condition.
-/
import Derived.Test.YtkfomfpeangcdaaFUp
import Derived.Test.YtkfomfpeangcdaaFLaw
import Derived.Test.YtkfomfpeangcdaaFAdd2
import Derived.Test.YtkfomfpeangcdaaFSub2
import Derived.Test.YtkfomfpeangcdaaFMul2
import Derived.Test.YtkfomfpeangcdaaEql
import Derived.Deep.RegionHeld3
namespace Go.Proofs.Ytkfomfpeangcdaa
open Go.RowKit

set_option maxRecDepth 100000 in
set_option maxHeartbeats 8000000 in
theorem ring_walk (M : Nat) (A : Nat) (B : Nat) (C : Nat) (hM : M < top) (hA : A < top) (hB : B < top) (hC : C < top) (w : World) :
    Calls Try.prog 7 #[.agg #[.int .u64 (wd (M) 0), .int .u64 (wd (M) 1), .int .u64 (wd (M) 2), .int .u64 (wd (M) 3)], .agg #[.int .u64 (wd (A) 0), .int .u64 (wd (A) 1), .int .u64 (wd (A) 2), .int .u64 (wd (A) 3)], .agg #[.int .u64 (wd (B) 0), .int .u64 (wd (B) 1), .int .u64 (wd (B) 2), .int .u64 (wd (B) 3)], .agg #[.int .u64 (wd (C) 0), .int .u64 (wd (C) 1), .int .u64 (wd (C) 2), .int .u64 (wd (C) 3)]] w fun e w' => e = .returned (.bool true) ∧ Below w.heap.size w w' := by
  have hA0 : ((((w.alloc (.cells #[.int .u64 (wd (M) 0), .int .u64 (wd (M) 1), .int .u64 (wd (M) 2), .int .u64 (wd (M) 3)] 24)).alloc (.cells #[.int .u64 (wd (A) 0), .int .u64 (wd (A) 1), .int .u64 (wd (A) 2), .int .u64 (wd (A) 3)] 24)).alloc (.cells #[.int .u64 (wd (B) 0), .int .u64 (wd (B) 1), .int .u64 (wd (B) 2), .int .u64 (wd (B) 3)] 24)).alloc (.cells #[.int .u64 (wd (C) 0), .int .u64 (wd (C) 1), .int .u64 (wd (C) 2), .int .u64 (wd (C) 3)] 24)).rowIs w.heap.size 24 4 (fun j => .int .u64 (wd M j)) := (((row_new (n := 4) (by simp) rfl (arr4 fun j => .int .u64 (wd M j))).alloc _).alloc _).alloc _
  have hA1 : ((((w.alloc (.cells #[.int .u64 (wd (M) 0), .int .u64 (wd (M) 1), .int .u64 (wd (M) 2), .int .u64 (wd (M) 3)] 24)).alloc (.cells #[.int .u64 (wd (A) 0), .int .u64 (wd (A) 1), .int .u64 (wd (A) 2), .int .u64 (wd (A) 3)] 24)).alloc (.cells #[.int .u64 (wd (B) 0), .int .u64 (wd (B) 1), .int .u64 (wd (B) 2), .int .u64 (wd (B) 3)] 24)).alloc (.cells #[.int .u64 (wd (C) 0), .int .u64 (wd (C) 1), .int .u64 (wd (C) 2), .int .u64 (wd (C) 3)] 24)).rowIs (w.heap.size + 1) 24 4 (fun j => .int .u64 (wd A j)) := ((row_new (n := 4) (by simp) rfl (arr4 fun j => .int .u64 (wd A j))).alloc _).alloc _
  have hA2 : ((((w.alloc (.cells #[.int .u64 (wd (M) 0), .int .u64 (wd (M) 1), .int .u64 (wd (M) 2), .int .u64 (wd (M) 3)] 24)).alloc (.cells #[.int .u64 (wd (A) 0), .int .u64 (wd (A) 1), .int .u64 (wd (A) 2), .int .u64 (wd (A) 3)] 24)).alloc (.cells #[.int .u64 (wd (B) 0), .int .u64 (wd (B) 1), .int .u64 (wd (B) 2), .int .u64 (wd (B) 3)] 24)).alloc (.cells #[.int .u64 (wd (C) 0), .int .u64 (wd (C) 1), .int .u64 (wd (C) 2), .int .u64 (wd (C) 3)] 24)).rowIs (w.heap.size + 1 + 1) 24 4 (fun j => .int .u64 (wd B j)) := (row_new (n := 4) (by simp) rfl (arr4 fun j => .int .u64 (wd B j))).alloc _
  have hA3 : ((((w.alloc (.cells #[.int .u64 (wd (M) 0), .int .u64 (wd (M) 1), .int .u64 (wd (M) 2), .int .u64 (wd (M) 3)] 24)).alloc (.cells #[.int .u64 (wd (A) 0), .int .u64 (wd (A) 1), .int .u64 (wd (A) 2), .int .u64 (wd (A) 3)] 24)).alloc (.cells #[.int .u64 (wd (B) 0), .int .u64 (wd (B) 1), .int .u64 (wd (B) 2), .int .u64 (wd (B) 3)] 24)).alloc (.cells #[.int .u64 (wd (C) 0), .int .u64 (wd (C) 1), .int .u64 (wd (C) 2), .int .u64 (wd (C) 3)] 24)).rowIs (w.heap.size + 1 + 1 + 1) 24 4 (fun j => .int .u64 (wd C j)) := row_new (n := 4) (by simp) rfl (arr4 fun j => .int .u64 (wd C j))
  have hbel : Below w.heap.size w ((((w.alloc (.cells #[.int .u64 (wd (M) 0), .int .u64 (wd (M) 1), .int .u64 (wd (M) 2), .int .u64 (wd (M) 3)] 24)).alloc (.cells #[.int .u64 (wd (A) 0), .int .u64 (wd (A) 1), .int .u64 (wd (A) 2), .int .u64 (wd (A) 3)] 24)).alloc (.cells #[.int .u64 (wd (B) 0), .int .u64 (wd (B) 1), .int .u64 (wd (B) 2), .int .u64 (wd (B) 3)] 24)).alloc (.cells #[.int .u64 (wd (C) 0), .int .u64 (wd (C) 1), .int .u64 (wd (C) 2), .int .u64 (wd (C) 3)] 24)) := ((((Below.refl _ _).alloc (by simp) _).alloc (by simp) _).alloc (by simp; omega) _).alloc (by simp; omega) _
  go_enter Try.func7, Try.ntmps7
  go_wp2_with fail
  refine (up_calls _).mono ?_
  rintro e w1 ⟨rfl, hb1⟩
  replace hA0 := row_below (by exact hA0) hb1 (by exact hA0.lt)
  replace hA1 := row_below (by exact hA1) hb1 (by exact hA1.lt)
  replace hA2 := row_below (by exact hA2) hb1 (by exact hA2.lt)
  replace hA3 := row_below (by exact hA3) hb1 (by exact hA3.lt)
  replace hbel := Below.trans (by first | exact hbel | exact hbel.drew) (hb1.mono (by exact hbel.size))
  clear hb1
  obtain ⟨m0, m1, m2, m3⟩ := row_c4 hA0
  go_wp2_with fail
  by_cases hg : oddB M = false
  · refine (new_bad M hg hM _).mono ?_
    rintro e w2 ⟨rfl, hb2⟩
    replace hA0 := row_below (by exact hA0) hb2 (by exact hA0.lt)
    replace hA1 := row_below (by exact hA1) hb2 (by exact hA1.lt)
    replace hA2 := row_below (by exact hA2) hb2 (by exact hA2.lt)
    replace hA3 := row_below (by exact hA3) hb2 (by exact hA3.lt)
    replace hbel := Below.trans (by first | exact hbel | exact hbel.drew) (hb2.mono (by exact hbel.size))
    clear hb2 m0 m1 m2 m3
    obtain ⟨m0, m1, m2, m3⟩ := row_c4 hA0
    have k1 := fun W => eql_err1 W
    have KO := veil (fun W => odd_calls M false hg hM W)
    clear hg
    go_wp2_with fail
    refine (KO.out _).mono ?_
    rintro e w3 ⟨rfl, hb3⟩
    replace hA0 := row_below (by exact hA0) hb3 (by exact hA0.lt)
    replace hA1 := row_below (by exact hA1) hb3 (by exact hA1.lt)
    replace hA2 := row_below (by exact hA2) hb3 (by exact hA2.lt)
    replace hA3 := row_below (by exact hA3) hb3 (by exact hA3.lt)
    replace hbel := Below.trans (by first | exact hbel | exact hbel.drew) (hb3.mono (by exact hbel.size))
    clear hb3 m0 m1 m2 m3
    go_wp2
    go_ret
    exact ⟨rfl, hbel⟩
  · obtain ⟨g1, g2⟩ := good_of hg
    refine (new_good M g1 g2 hM _).mono ?_
    rintro e w2 ⟨⟨b, N, Q, hK, hFr, hbw, rfl⟩, hb2⟩
    replace hA0 := row_below (by exact hA0) hb2 (by exact hA0.lt)
    replace hA1 := row_below (by exact hA1) hb2 (by exact hA1.lt)
    replace hA2 := row_below (by exact hA2) hb2 (by exact hA2.lt)
    replace hA3 := row_below (by exact hA3) hb2 (by exact hA3.lt)
    replace hbel := Below.trans (by first | exact hbel | exact hbel.drew) (hb2.mono (by exact hbel.size))
    clear hb2 m0 m1 m2 m3 hbw
    obtain ⟨m0, m1, m2, m3⟩ := row_c4 hA0
    have KO := veil (fun W => odd_calls M true (by simpa using hg) hM W)
    clear hg
    go_wp2_with fail
    refine (KO.out _).mono ?_
    rintro e wz ⟨rfl, hb3⟩
    replace hA0 := row_below (by exact hA0) hb3 (by exact hA0.lt)
    replace hA1 := row_below (by exact hA1) hb3 (by exact hA1.lt)
    replace hA2 := row_below (by exact hA2) hb3 (by exact hA2.lt)
    replace hA3 := row_below (by exact hA3) hb3 (by exact hA3.lt)
    replace hFr := Fb.below (by exact hFr) hb3 (by exact hFr.lt)
    replace hbel := Below.trans (by first | exact hbel | exact hbel.drew) (hb3.mono (by exact hbel.size))
    clear hb3 m0 m1 m2 m3 KO
    have hM0 : 0 < M := by omega
    obtain ⟨P, hP⟩ : ∃ P, P = A * B % M := ⟨_, rfl⟩
    obtain ⟨R, hR⟩ : ∃ R, R = A * B * C % M := ⟨_, rfl⟩
    obtain ⟨S, hS⟩ : ∃ S, S = B * C % M := ⟨_, rfl⟩
    obtain ⟨U, hU⟩ : ∃ U, U = (B % M + C % M) % M := ⟨_, rfl⟩
    obtain ⟨V, hV⟩ : ∃ V, V = A * (B + C) % M := ⟨_, rfl⟩
    obtain ⟨T, hT⟩ : ∃ T, T = A * C % M := ⟨_, rfl⟩
    obtain ⟨D, hD⟩ : ∃ D, D = (A % M + B % M) % M := ⟨_, rfl⟩
    obtain ⟨F, hF⟩ : ∃ F, F = A % M := ⟨_, rfl⟩
    have lP : P < top := by rw [hP]; exact Nat.lt_trans (Nat.mod_lt _ hM0) hM
    have lS : S < top := by rw [hS]; exact Nat.lt_trans (Nat.mod_lt _ hM0) hM
    have lU : U < top := by rw [hU]; exact Nat.lt_trans (Nat.mod_lt _ hM0) hM
    have lT : T < top := by rw [hT]; exact Nat.lt_trans (Nat.mod_lt _ hM0) hM
    have lD : D < top := by rw [hD]; exact Nat.lt_trans (Nat.mod_lt _ hM0) hM
    have K1 := veil (fun W (h : Fb W b M N Q) => fmul2_calls b A B M N Q P hA hB hK hP.symm W h)
    have K2 := veil (fun W (h : Fb W b M N Q) => fmul2_calls b B A M N Q P hB hA hK (by rw [hP, Nat.mul_comm]) W h)
    have K3 := veil (fun W (h : Fb W b M N Q) => fmul2_calls b P C M N Q R lP hC hK (by rw [hP, hR, Nat.mod_mul_mod]) W h)
    have K4 := veil (fun W (h : Fb W b M N Q) => fmul2_calls b B C M N Q S hB hC hK hS.symm W h)
    have K5 := veil (fun W (h : Fb W b M N Q) => fmul2_calls b A S M N Q R hA lS hK (by rw [hS, hR, Nat.mul_mod_mod, Nat.mul_assoc]) W h)
    have K6 := veil (fun W (h : Fb W b M N Q) => fadd2_calls b B C M N Q U hB hC hK hU.symm W h)
    have K7 := veil (fun W (h : Fb W b M N Q) => fmul2_calls b A U M N Q V hA lU hK (by rw [hU, hV, ← Nat.add_mod, Nat.mul_mod_mod]) W h)
    have K8 := veil (fun W (h : Fb W b M N Q) => fmul2_calls b A C M N Q T hA hC hK hT.symm W h)
    have K9 := veil (fun W (h : Fb W b M N Q) => fadd2_calls b P T M N Q V lP lT hK (by rw [hP, hT, hV, Nat.mod_mod, Nat.mod_mod, ← Nat.add_mod, Nat.mul_add]) W h)
    have K10 := veil (fun W (h : Fb W b M N Q) => fadd2_calls b A B M N Q D hA hB hK hD.symm W h)
    have K11 := veil (fun W (h : Fb W b M N Q) => fsub2_calls b D B M N Q F lD hB hK (by rw [hD, hF]; exact ring_back A B M hM0) W h)
    have K12 := veil (fun W (h : Fb W b M N Q) => fadd_zero b A M N Q F hA hK hF.symm W h)
    have k1 := fun W => eql_num_same P W
    have k2 := fun W => eql_num_same R W
    have k3 := fun W => eql_num_same V W
    have k4 := fun W => eql_num_same F W
    clear hP hR hS hU hV hT hD hF lP lS lU lT lD hM0 hA hB hC hM hK g1 g2
    obtain ⟨c00, c01, c02, c03⟩ := row_c4 hA0
    have z0 := hA0.lt
    obtain ⟨c10, c11, c12, c13⟩ := row_c4 hA1
    have z1 := hA1.lt
    obtain ⟨c20, c21, c22, c23⟩ := row_c4 hA2
    have z2 := hA2.lt
    obtain ⟨c30, c31, c32, c33⟩ := row_c4 hA3
    have z3 := hA3.lt
    have zf := hFr.lt
    clear hA0 hA1 hA2 hA3
    go_wp2_with fail
    as_aux_lemma =>
    go_region_held3 (fun w' => (∀ b o, b < wz.heap.size → w'.cell? ⟨b, o, none⟩ = wz.cell? ⟨b, o, none⟩) ∧ Below wz.heap.size wz w')
      (first
        | with_reducible exact keep_drew _
        | with_reducible exact keep_old (by assumption) (by assumption)
        | exact keep_drew _
        | exact keep_old (by assumption) (by assumption))
      (first
        | (go_at_call 21; (first | with_reducible refine (K1.out _ ?hf).mono ?_ | with_reducible refine (K2.out _ ?hf).mono ?_ | with_reducible refine (K3.out _ ?hf).mono ?_ | with_reducible refine (K4.out _ ?hf).mono ?_ | with_reducible refine (K5.out _ ?hf).mono ?_ | with_reducible refine (K7.out _ ?hf).mono ?_ | with_reducible refine (K8.out _ ?hf).mono ?_); (case hf => first | with_reducible exact hFr | with_reducible exact hFr.drew | with_reducible exact held_fb hFr (by assumption) | exact held_fb hFr (by assumption) | exact hFr); rintro e w' ⟨rfl, hb'⟩)
        | (go_at_call 17; (first | with_reducible refine (K6.out _ ?hf).mono ?_ | with_reducible refine (K9.out _ ?hf).mono ?_ | with_reducible refine (K10.out _ ?hf).mono ?_ | with_reducible refine (K12.out _ ?hf).mono ?_); (case hf => first | with_reducible exact hFr | with_reducible exact hFr.drew | with_reducible exact held_fb hFr (by assumption) | exact held_fb hFr (by assumption) | exact hFr); rintro e w' ⟨rfl, hb'⟩)
        | (go_at_call 19; (first | with_reducible refine (K11.out _ ?hf).mono ?_); (case hf => first | with_reducible exact hFr | with_reducible exact hFr.drew | with_reducible exact held_fb hFr (by assumption) | exact held_fb hFr (by assumption) | exact hFr); rintro e w' ⟨rfl, hb'⟩))
    all_goals
      go_wp2
      go_ret
      have hh := (by assumption : _ ∧ Below wz.heap.size wz _)
      exact ⟨rfl, hbel.trans (hh.2.mono hbel.size)⟩

/-! ### the statement -/
section
open Go.ChangeShapes Go.WideShapes Go.ChangeAt
set_option maxRecDepth 100000 in
theorem FieldRing_lifted (os : Os) (started : os.Started) (H : Type) (enc : TypeId × Value → H) :
    ReturnsInHanded {} Try.checked os 7 .any (Rows.fieldRingSpec.pre6 enc Try.prog Try.f7 Rows.fieldRingRow.domain false) (Rows.fieldRingSpec.post enc Try.prog Try.f7 false true false false) := by
  refine returnsInHanded_of_change (C := Try.checked) own started (by kernel_rfl) Try.func7
    (ChangeSpec.witness6 (enc := enc) (C := Try.checked) false ⟨#[], #[.agg #[.int .u64 0, .int .u64 0, .int .u64 0, .int .u64 0], .agg #[.int .u64 0, .int .u64 0, .int .u64 0, .int .u64 0], .agg #[.int .u64 0, .int .u64 0, .int .u64 0, .int .u64 0], .agg #[.int .u64 0, .int .u64 0, .int .u64 0, .int .u64 0]], []⟩ 8 (by kernel_rfl) (by kernel_rfl) (by kernel_rfl) (by kernel_rfl)) ?_
  intro W base args ds gs before hval0 hW _ _
  have hval : ∀ (j : Nat) t v, Try.f7.params[j]? = some t → args[j]? = some v → Value.okWide Try.prog W .any base t v := hval0
  have hW' := hW
  obtain ⟨p, q, hA0, hV, rfl, _, _⟩ := hW
  have hA : DataW.TrodAll enc Try.prog W 0 (fun _ => true) true Try.f7.params.toList args.toList ds p := hA0
  rw [Try.params7] at hA hval
  obtain ⟨v0, v1, v2, v3, d0, d1, d2, d3, p0, p1, p2, p3, rfl, rfl, rfl, h0, h1, h2, h3⟩ := trodAll_four hA
  obtain ⟨rfl, rfl⟩ := trodVars_none hV
  obtain ⟨M, hM, rfl, rfl, rfl⟩ := open_num (hval 0 24 v0 rfl rfl) h0
  obtain ⟨X, hX, rfl, rfl, rfl⟩ := open_num (hval 1 24 v1 rfl rfl) h1
  obtain ⟨Y, hY, rfl, rfl, rfl⟩ := open_num (hval 2 24 v2 rfl rfl) h2
  obtain ⟨Z, hZ, rfl, rfl, rfl⟩ := open_num (hval 3 24 v3 rfl rfl) h3
  clear hA0 hval0
  simp only [List.append_nil] at hW'
  refine (ring_walk M X Y Z hM hX hY hZ W).mono fun e W' ⟨he, hb⟩ => ?_
  subst he
  exact ⟨_, rfl, _, _, _, [], [], [], hW', trodAll_mk1 (shut_bool Try.underlying4 true), trodAll_mk4 (shut_num W' 0 _ true M) (shut_num W' 0 _ true X) (shut_num W' 0 _ true Y) (shut_num W' 0 _ true Z), rfl, hb.frame _, fun h => by cases h⟩

theorem FieldRing_over : Rows.fieldRingRow.holds Try.pinned (OpenSpec.ofChange Rows.fieldRingSpec) :=
  OpenClaim.holds_of_wide 7 Try.f7 rfl rfl rfl rfl rfl rfl rfl ⟨rfl, rfl, rfl, rfl, rfl⟩ rfl rfl rfl rfl rfl (by kernel_rfl) Try.func7 (by kernel_rfl)
    (of_decide_eq_true (by kernel_rfl)) (by unfold Func.isWrapper; rw [if_neg (of_decide_eq_false (by kernel_rfl))]; exact ⟨rfl, rfl⟩)
    (fun os started H enc _ => FieldRing_lifted os started H enc)

theorem FieldRing_holds : Rows.FieldRingSaid :=
  FieldRing_over
end

#print axioms FieldRing_holds
end Go.Proofs.Ytkfomfpeangcdaa
