/-
  FieldSmall: a number to a sum of small ones is the product of both powers.
  No condition.
-/
import Derived.Test.YtkfomfpeangcdaaFUp
import Derived.Test.YtkfomfpeangcdaaFLaw
import Derived.Test.YtkfomfpeangcdaaFPow
import Derived.Test.YtkfomfpeangcdaaFMul2
import Derived.Test.YtkfomfpeangcdaaEql
import Derived.Deep.RegionHeld3
namespace Go.Proofs.Ytkfomfpeangcdaa
open Go.RowKit

set_option maxRecDepth 100000 in
set_option maxHeartbeats 8000000 in
theorem small_walk (M : Nat) (X : Nat) (i : Int) (k : Int) (hM : M < top) (hX : X < top) (li : 0 ≤ i) (ui : i ≤ 18446744073709551615) (lk : 0 ≤ k) (uk : k ≤ 18446744073709551615) (w : World) :
    Calls Try.prog 9 #[.agg #[.int .u64 (wd (M) 0), .int .u64 (wd (M) 1), .int .u64 (wd (M) 2), .int .u64 (wd (M) 3)], .agg #[.int .u64 (wd (X) 0), .int .u64 (wd (X) 1), .int .u64 (wd (X) 2), .int .u64 (wd (X) 3)], .int .u64 i, .int .u64 k] w fun e w' => e = .returned (.bool true) ∧ Below w.heap.size w w' := by
  have hA0 : ((w.alloc (.cells #[.int .u64 (wd (M) 0), .int .u64 (wd (M) 1), .int .u64 (wd (M) 2), .int .u64 (wd (M) 3)] 24)).alloc (.cells #[.int .u64 (wd (X) 0), .int .u64 (wd (X) 1), .int .u64 (wd (X) 2), .int .u64 (wd (X) 3)] 24)).rowIs w.heap.size 24 4 (fun j => .int .u64 (wd M j)) := (row_new (n := 4) (by simp) rfl (arr4 fun j => .int .u64 (wd M j))).alloc _
  have hA1 : ((w.alloc (.cells #[.int .u64 (wd (M) 0), .int .u64 (wd (M) 1), .int .u64 (wd (M) 2), .int .u64 (wd (M) 3)] 24)).alloc (.cells #[.int .u64 (wd (X) 0), .int .u64 (wd (X) 1), .int .u64 (wd (X) 2), .int .u64 (wd (X) 3)] 24)).rowIs (w.heap.size + 1) 24 4 (fun j => .int .u64 (wd X j)) := row_new (n := 4) (by simp) rfl (arr4 fun j => .int .u64 (wd X j))
  have hbel : Below w.heap.size w ((w.alloc (.cells #[.int .u64 (wd (M) 0), .int .u64 (wd (M) 1), .int .u64 (wd (M) 2), .int .u64 (wd (M) 3)] 24)).alloc (.cells #[.int .u64 (wd (X) 0), .int .u64 (wd (X) 1), .int .u64 (wd (X) 2), .int .u64 (wd (X) 3)] 24)) := ((Below.refl _ _).alloc (by simp) _).alloc (by simp) _
  go_enter Try.func9, Try.ntmps9
  go_wp2_with fail
  refine (up_calls _).mono ?_
  rintro e w1 ⟨rfl, hb1⟩
  replace hA0 := row_below (by exact hA0) hb1 (by exact hA0.lt)
  replace hA1 := row_below (by exact hA1) hb1 (by exact hA1.lt)
  replace hbel := Below.trans (by first | exact hbel | exact hbel.drew) (hb1.mono (by exact hbel.size))
  clear hb1
  obtain ⟨m0, m1, m2, m3⟩ := row_c4 hA0
  go_wp2_with fail
  by_cases hg : oddB M = false
  · refine (new_bad M hg hM _).mono ?_
    rintro e w2 ⟨rfl, hb2⟩
    replace hA0 := row_below (by exact hA0) hb2 (by exact hA0.lt)
    replace hA1 := row_below (by exact hA1) hb2 (by exact hA1.lt)
    replace hbel := Below.trans (by first | exact hbel | exact hbel.drew) (hb2.mono (by exact hbel.size))
    clear hb2 m0 m1 m2 m3
    obtain ⟨m0, m1, m2, m3⟩ := row_c4 hA0
    have k1 := fun W => eql_err1 W
    have KO := veil (fun W => odd_calls M false hg hM W)
    clear hg
    go_wp2_with fail
    refine (KO.out _).mono ?_
    rintro e w3 ⟨rfl, hb3⟩
    replace hA0 := row_below (by exact hA0) hb3 (by exact hA0.lt)
    replace hA1 := row_below (by exact hA1) hb3 (by exact hA1.lt)
    replace hbel := Below.trans (by first | exact hbel | exact hbel.drew) (hb3.mono (by exact hbel.size))
    clear hb3 m0 m1 m2 m3
    go_wp2
    go_ret
    exact ⟨rfl, hbel⟩
  · obtain ⟨g1, g2⟩ := good_of hg
    refine (new_good M g1 g2 hM _).mono ?_
    rintro e w2 ⟨⟨b, N, Q, hK, hFr, hbw, rfl⟩, hb2⟩
    replace hA0 := row_below (by exact hA0) hb2 (by exact hA0.lt)
    replace hA1 := row_below (by exact hA1) hb2 (by exact hA1.lt)
    replace hbel := Below.trans (by first | exact hbel | exact hbel.drew) (hb2.mono (by exact hbel.size))
    clear hb2 m0 m1 m2 m3 hbw
    obtain ⟨m0, m1, m2, m3⟩ := row_c4 hA0
    have KO := veil (fun W => odd_calls M true (by simpa using hg) hM W)
    clear hg
    go_wp2_with fail
    refine (KO.out _).mono ?_
    rintro e wz ⟨rfl, hb3⟩
    replace hA0 := row_below (by exact hA0) hb3 (by exact hA0.lt)
    replace hA1 := row_below (by exact hA1) hb3 (by exact hA1.lt)
    replace hFr := Fb.below (by exact hFr) hb3 (by exact hFr.lt)
    replace hbel := Below.trans (by first | exact hbel | exact hbel.drew) (hb3.mono (by exact hbel.size))
    clear hb3 m0 m1 m2 m3 KO
    go_upto_region 8 with (fail)
    obtain ⟨I, hI⟩ : ∃ I : Nat, (i / 2 : Int) = (I : Int) := ⟨(i / 2).toNat, by omega⟩
    obtain ⟨J, hJ⟩ : ∃ J : Nat, (k / 2 : Int) = (J : Int) := ⟨(k / 2).toNat, by omega⟩
    obtain ⟨E, hE⟩ : ∃ E : Nat, E = I + J := ⟨_, rfl⟩
    have hE1 : (I : Int) + (J : Int) = (E : Int) := by omega
    have lE : E < w64 := by rw [w64_val]; omega
    have lI : I < w64 := by rw [w64_val]; omega
    have lJ : J < w64 := by rw [w64_val]; omega
    rw [hI, hJ]
    obtain ⟨P, hP⟩ : ∃ P, P = X ^ E % M := ⟨_, rfl⟩
    obtain ⟨P1, hP1⟩ : ∃ P1, P1 = X ^ I % M := ⟨_, rfl⟩
    obtain ⟨P2, hP2⟩ : ∃ P2, P2 = X ^ J % M := ⟨_, rfl⟩
    have hM0 : 0 < M := by omega
    have l1 : P1 < top := by rw [hP1]; exact Nat.lt_trans (Nat.mod_lt _ hM0) hM
    have l2 : P2 < top := by rw [hP2]; exact Nat.lt_trans (Nat.mod_lt _ hM0) hM
    have K1 := veil (fun W (h : Fb W b M N Q) => fpow_lit b X E M N Q P hX lE hK hP.symm W h)
    have K2 := veil (fun W (h : Fb W b M N Q) => fpow_lit b X I M N Q P1 hX lI hK hP1.symm W h)
    have K3 := veil (fun W (h : Fb W b M N Q) => fpow_lit b X J M N Q P2 hX lJ hK hP2.symm W h)
    have K4 := veil (fun W (h : Fb W b M N Q) => fmul2_calls b P1 P2 M N Q P l1 l2 hK (by rw [hP1, hP2, hP, ← Nat.mul_mod, hE, Nat.pow_add]) W h)
    have k1 := fun W => eql_num_same P W
    have hw : IntKind.u64.wrap (E : Int) = (E : Int) := by rw [IntKind.wrap_u64]; rw [w64_val] at lE; omega
    clear hP hP1 hP2 l1 l2 lE lI lJ hI hJ hE li ui lk uk hM0 hX hM hK g1 g2
    obtain ⟨c00, c01, c02, c03⟩ := row_c4 hA0
    have z0 := hA0.lt
    obtain ⟨c10, c11, c12, c13⟩ := row_c4 hA1
    have z1 := hA1.lt
    have zf := hFr.lt
    clear hA0 hA1
    go_wp2_with fail
    as_aux_lemma =>
    go_region_held3 (fun w' => (∀ b o, b < wz.heap.size → w'.cell? ⟨b, o, none⟩ = wz.cell? ⟨b, o, none⟩) ∧ Below wz.heap.size wz w')
      (first
        | with_reducible exact keep_drew _
        | with_reducible exact keep_old (by assumption) (by assumption)
        | exact keep_drew _
        | exact keep_old (by assumption) (by assumption))
      (first
        | (go_at_call 23; (first | with_reducible refine (K1.out _ ?hf).mono ?_ | with_reducible refine (K2.out _ ?hf).mono ?_ | with_reducible refine (K3.out _ ?hf).mono ?_); (case hf => first | with_reducible exact hFr | with_reducible exact hFr.drew | with_reducible exact held_fb hFr (by assumption) | exact held_fb hFr (by assumption) | exact hFr); rintro e w' ⟨rfl, hb'⟩)
        | (go_at_call 21; (first | with_reducible refine (K4.out _ ?hf).mono ?_); (case hf => first | with_reducible exact hFr | with_reducible exact hFr.drew | with_reducible exact held_fb hFr (by assumption) | exact held_fb hFr (by assumption) | exact hFr); rintro e w' ⟨rfl, hb'⟩))
    all_goals
      go_wp2
      go_ret
      have hh := (by assumption : _ ∧ Below wz.heap.size wz _)
      exact ⟨rfl, hbel.trans (hh.2.mono hbel.size)⟩

/-! ### the statement -/
section
open Go.ChangeShapes Go.WideShapes Go.ChangeAt
set_option maxRecDepth 100000 in
theorem FieldSmall_lifted (os : Os) (started : os.Started) (H : Type) (enc : TypeId × Value → H) :
    ReturnsInHanded {} Try.checked os 9 .any (Rows.fieldSmallSpec.pre6 enc Try.prog Try.f9 Rows.fieldSmallRow.domain false) (Rows.fieldSmallSpec.post enc Try.prog Try.f9 false true false false) := by
  refine returnsInHanded_of_change (C := Try.checked) own started (by kernel_rfl) Try.func9
    (ChangeSpec.witness6 (enc := enc) (C := Try.checked) false ⟨#[], #[.agg #[.int .u64 0, .int .u64 0, .int .u64 0, .int .u64 0], .agg #[.int .u64 0, .int .u64 0, .int .u64 0, .int .u64 0], .int .u64 0, .int .u64 0], []⟩ 8 (by kernel_rfl) (by kernel_rfl) (by kernel_rfl) (by kernel_rfl)) ?_
  intro W base args ds gs before hval0 hW _ _
  have hval : ∀ (j : Nat) t v, Try.f9.params[j]? = some t → args[j]? = some v → Value.okWide Try.prog W .any base t v := hval0
  have hW' := hW
  obtain ⟨p, q, hA0, hV, rfl, _, _⟩ := hW
  have hA : DataW.TrodAll enc Try.prog W 0 (fun _ => true) true Try.f9.params.toList args.toList ds p := hA0
  rw [Try.params9] at hA hval
  obtain ⟨v0, v1, v2, v3, d0, d1, d2, d3, p0, p1, p2, p3, rfl, rfl, rfl, h0, h1, h2, h3⟩ := trodAll_four hA
  obtain ⟨rfl, rfl⟩ := trodVars_none hV
  obtain ⟨M, hM, rfl, rfl, rfl⟩ := open_num (hval 0 24 v0 rfl rfl) h0
  obtain ⟨X, hX, rfl, rfl, rfl⟩ := open_num (hval 1 24 v1 rfl rfl) h1
  obtain ⟨i, rfl, rfl, rfl, wi⟩ := open_int Try.underlying22 (hval 2 22 v2 rfl rfl) h2
  obtain ⟨li, ui⟩ := wf_u64 wi
  obtain ⟨k, rfl, rfl, rfl, wk⟩ := open_int Try.underlying22 (hval 3 22 v3 rfl rfl) h3
  obtain ⟨lk, uk⟩ := wf_u64 wk
  clear hA0 hval0
  simp only [List.append_nil] at hW'
  refine (small_walk M X i k hM hX li (by omega) lk (by omega) W).mono fun e W' ⟨he, hb⟩ => ?_
  subst he
  exact ⟨_, rfl, _, _, _, [], [], [], hW', trodAll_mk1 (shut_bool Try.underlying4 true), trodAll_mk4 (shut_num W' 0 _ true M) (shut_num W' 0 _ true X) (shut_int Try.underlying22 wi) (shut_int Try.underlying22 wk), rfl, hb.frame _, fun h => by cases h⟩

theorem FieldSmall_over : Rows.fieldSmallRow.holds Try.pinned (OpenSpec.ofChange Rows.fieldSmallSpec) :=
  OpenClaim.holds_of_wide 9 Try.f9 rfl rfl rfl rfl rfl rfl rfl ⟨rfl, rfl, rfl, rfl, rfl⟩ rfl rfl rfl rfl rfl (by kernel_rfl) Try.func9 (by kernel_rfl)
    (of_decide_eq_true (by kernel_rfl)) (by unfold Func.isWrapper; rw [if_neg (of_decide_eq_false (by kernel_rfl))]; exact ⟨rfl, rfl⟩)
    (fun os started H enc _ => FieldSmall_lifted os started H enc)

theorem FieldSmall_holds : Rows.FieldSmallSaid :=
  FieldSmall_over
end

#print axioms FieldSmall_holds
end Go.Proofs.Ytkfomfpeangcdaa
