/-
  LimbBits: half of any number, any bit of it, and how many bits it has, are the document's, by definition.
  No condition.
-/
import Derived.Test.YtlkpbjfkncmcgaaLen
import Derived.Test.YtlkpbjfkncmcgaaHalf
import Derived.Test.YtlkpbjfkncmcgaaUp
import Derived.Test.YtlkpbjfkncmcgaaEql
import Derived.Test.YtlkpbjfkncmcgaaFrame
import Derived.Deep.RegionHeld3
namespace Go.Proofs.Ytlkpbjfkncmcgaa
open Go.RowKit

/-- Any bit; false outside. -/
def bitI (X : Nat) (i : Int) : Bool := if 0 ≤ i ∧ i ≤ 255 then bit X i.toNat else false
theorem bitI_in (X n : Nat) (hn : n < 256) : bitI X (n : Int) = bit X n := by
  unfold bitI; rw [if_pos (by omega)]; rfl
theorem bitI_out (X : Nat) (i : Int) (h : i < 0 ∨ 256 ≤ i) : bitI X i = false := by
  unfold bitI; rw [if_neg (by omega)]
theorem bit_calls (X : Nat) (i : Int) (w : World) :
    Calls Try.prog 21 #[.agg #[.int .u64 (wd (X) 0), .int .u64 (wd (X) 1), .int .u64 (wd (X) 2), .int .u64 (wd (X) 3)], .int .i64 i] w fun e w' => e = .returned (.bool (bitI X i)) ∧ Below w.heap.size w w' := by
  by_cases h : i < 0 ∨ 256 ≤ i
  · rw [bitI_out X i h]; exact bit_out X i h w
  · obtain ⟨n, rfl⟩ := Int.eq_ofNat_of_zero_le (show 0 ≤ i by omega)
    rw [bitI_in X n (by omega)]; exact bit_in X n (by omega) w
theorem rbit_calls (X : Nat) (i : Int) (w : World) :
    Calls Try.prog 22 #[.agg #[.int .u64 (wd (X) 0), .int .u64 (wd (X) 1), .int .u64 (wd (X) 2), .int .u64 (wd (X) 3)], .int .i64 i] w fun e w' => e = .returned (.bool (bitI X i)) ∧ Below w.heap.size w w' := by
  by_cases h : i < 0 ∨ 256 ≤ i
  · rw [bitI_out X i h]; exact rbit_out X i h w
  · obtain ⟨n, rfl⟩ := Int.eq_ofNat_of_zero_le (show 0 ≤ i by omega)
    rw [bitI_in X n (by omega)]; exact rbit_in X n (by omega) w

set_option maxHeartbeats 2000000 in
theorem bits_walk (X : Nat) (i : Int) (hX : X < top) (w : World) :
    Calls Try.prog 5 #[.agg #[.int .u64 (wd (X) 0), .int .u64 (wd (X) 1), .int .u64 (wd (X) 2), .int .u64 (wd (X) 3)], .int .i64 i] w fun e w' => e = .returned (.bool true) ∧ Below w.heap.size w w' := by
  have hRA : (w.alloc (.cells #[.int .u64 (wd (X) 0), .int .u64 (wd (X) 1), .int .u64 (wd (X) 2), .int .u64 (wd (X) 3)] 24)).rowIs w.heap.size 24 4 (fun j => .int .u64 (wd X j)) := row_new (n := 4) (by simp) rfl (arr4 fun j => .int .u64 (wd X j))
  have hB0 : Below w.heap.size w (w.alloc (.cells #[.int .u64 (wd (X) 0), .int .u64 (wd (X) 1), .int .u64 (wd (X) 2), .int .u64 (wd (X) 3)] 24)) := (Below.refl _ _).alloc (by simp) _
  go_enter Try.func5, Try.ntmps5
  go_wp2_with fail
  refine (up_calls _).mono ?_
  rintro e wz ⟨rfl, hb1⟩
  have hRA1 := row_below hRA hb1 hRA.lt
  have hB1 := hB0.trans (hb1.mono hB0.size)
  clear hRA hB0 hb1
  obtain ⟨a0, a1, a2, a3⟩ := row_c4 hRA1
  have z1 := hRA1.lt
  have k1 := fun W => eql_num_same (X / 2) W
  clear hRA1
  go_wp2
  as_aux_lemma =>
  go_region_held3 (fun w' => (∀ b o, b < wz.heap.size → w'.cell? ⟨b, o, none⟩ = wz.cell? ⟨b, o, none⟩) ∧ Below wz.heap.size wz w')
    (first
      | exact keep_drew _
      | exact keep_old (by assumption) (by assumption))
    (first
      | (go_at_call 19; refine (half_calls X hX _).mono ?_; rintro e w' ⟨rfl, hb'⟩)
      | (go_at_call 20; refine (rhalf_calls X hX _).mono ?_; rintro e w' ⟨rfl, hb'⟩)
      | (go_at_call 21; refine (bit_calls X i _).mono ?_; rintro e w' ⟨rfl, hb'⟩)
      | (go_at_call 22; refine (rbit_calls X i _).mono ?_; rintro e w' ⟨rfl, hb'⟩)
      | (go_at_call 23; refine (len_calls X hX _).mono ?_; rintro e w' ⟨rfl, hb'⟩)
      | (go_at_call 24; refine (rlen_calls X hX _).mono ?_; rintro e w' ⟨rfl, hb'⟩))
  all_goals
    go_wp2
    go_ret
    have hh := (by assumption : _ ∧ Below wz.heap.size wz _)
    exact ⟨rfl, hB1.trans (hh.2.mono hB1.size)⟩

/-! ### the statement -/
section
open Go.ChangeShapes Go.WideShapes Go.ChangeAt
set_option maxRecDepth 100000 in
theorem LimbBits_lifted (os : Os) (started : os.Started) (H : Type) (enc : TypeId × Value → H) :
    ReturnsInHanded {} Try.checked os 5 .any (Rows.limbBitsSpec.pre6 enc Try.prog Try.f5 Rows.limbBitsRow.domain false) (Rows.limbBitsSpec.post enc Try.prog Try.f5 false true false false) := by
  refine returnsInHanded_of_change (C := Try.checked) own started (by kernel_rfl) Try.func5
    (ChangeSpec.witness6 (enc := enc) (C := Try.checked) false ⟨#[], #[.agg #[.int .u64 0, .int .u64 0, .int .u64 0, .int .u64 0], .int .i64 0], []⟩ 8 (by kernel_rfl) (by kernel_rfl) (by kernel_rfl) (by kernel_rfl)) ?_
  intro W base args ds gs before hval0 hW _ _
  have hval : ∀ (j : Nat) t v, Try.f5.params[j]? = some t → args[j]? = some v → Value.okWide Try.prog W .any base t v := hval0
  have hW' := hW
  obtain ⟨p, q, hA0, hV, rfl, _, _⟩ := hW
  have hA : DataW.TrodAll enc Try.prog W 0 (fun _ => true) true Try.f5.params.toList args.toList ds p := hA0
  rw [Try.params5] at hA hval
  obtain ⟨v0, v1, d0, d1, p0, p1, rfl, rfl, rfl, h0, h1⟩ := trodAll_two hA
  obtain ⟨rfl, rfl⟩ := trodVars_none hV
  obtain ⟨X, hX, rfl, rfl, rfl⟩ := open_num (hval 0 24 v0 rfl rfl) h0
  obtain ⟨i, rfl, rfl, rfl, wi⟩ := open_int Try.underlying3 (hval 1 3 v1 rfl rfl) h1
  clear hA0 hval0
  simp only [List.append_nil] at hW'
  refine (bits_walk X i hX W).mono fun e W' ⟨he, hb⟩ => ?_
  subst he
  exact ⟨_, rfl, _, _, _, [], [], [], hW', trodAll_mk1 (shut_bool Try.underlying4 true), trodAll_mk2 (shut_num W' 0 _ true X) (shut_int Try.underlying3 wi), rfl, hb.frame _, fun h => by cases h⟩

theorem LimbBits_over : Rows.limbBitsRow.holds Try.pinned (OpenSpec.ofChange Rows.limbBitsSpec) :=
  OpenClaim.holds_of_wide 5 Try.f5 rfl rfl rfl rfl rfl rfl rfl ⟨rfl, rfl, rfl, rfl, rfl⟩ rfl rfl rfl rfl rfl (by kernel_rfl) Try.func5 (by kernel_rfl)
    (of_decide_eq_true (by kernel_rfl)) (by unfold Func.isWrapper; rw [if_neg (of_decide_eq_false (by kernel_rfl))]; exact ⟨rfl, rfl⟩)
    (fun os started H enc _ => LimbBits_lifted os started H enc)

theorem LimbBits_holds : Rows.LimbBitsSaid :=
  LimbBits_over
end

#print axioms LimbBits_holds
end Go.Proofs.Ytlkpbjfkncmcgaa
