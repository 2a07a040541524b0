/-
  FieldInverses, where there is an inverse.
-/
import Derived.Test.YtkfomfpeangcdaaLInvM
namespace Go.Proofs.Ytkfomfpeangcdaa
open Go.RowKit

set_option maxRecDepth 100000 in
set_option maxHeartbeats 8000000 in
theorem inverses_yes (M X : Nat) (hM : M < top) (hX : X < top) (hg : ¬ oddB M = false) (hgc : Nat.gcd X M = 1) (w : World) :
    Calls Try.prog 6 #[.agg #[.int .u64 (wd (M) 0), .int .u64 (wd (M) 1), .int .u64 (wd (M) 2), .int .u64 (wd (M) 3)], .agg #[.int .u64 (wd (X) 0), .int .u64 (wd (X) 1), .int .u64 (wd (X) 2), .int .u64 (wd (X) 3)]] w fun e w' => e = .returned (.bool true) ∧ Below w.heap.size w w' := by
  have hA0 : ((w.alloc (.cells #[.int .u64 (wd (M) 0), .int .u64 (wd (M) 1), .int .u64 (wd (M) 2), .int .u64 (wd (M) 3)] 24)).alloc (.cells #[.int .u64 (wd (X) 0), .int .u64 (wd (X) 1), .int .u64 (wd (X) 2), .int .u64 (wd (X) 3)] 24)).rowIs w.heap.size 24 4 (fun j => .int .u64 (wd M j)) := (row_new (n := 4) (by simp) rfl (arr4 fun j => .int .u64 (wd M j))).alloc _
  have hA1 : ((w.alloc (.cells #[.int .u64 (wd (M) 0), .int .u64 (wd (M) 1), .int .u64 (wd (M) 2), .int .u64 (wd (M) 3)] 24)).alloc (.cells #[.int .u64 (wd (X) 0), .int .u64 (wd (X) 1), .int .u64 (wd (X) 2), .int .u64 (wd (X) 3)] 24)).rowIs (w.heap.size + 1) 24 4 (fun j => .int .u64 (wd X j)) := row_new (n := 4) (by simp) rfl (arr4 fun j => .int .u64 (wd X j))
  have hbel : Below w.heap.size w ((w.alloc (.cells #[.int .u64 (wd (M) 0), .int .u64 (wd (M) 1), .int .u64 (wd (M) 2), .int .u64 (wd (M) 3)] 24)).alloc (.cells #[.int .u64 (wd (X) 0), .int .u64 (wd (X) 1), .int .u64 (wd (X) 2), .int .u64 (wd (X) 3)] 24)) := ((Below.refl _ _).alloc (by simp) _).alloc (by simp) _
  go_enter Try.func6, Try.ntmps6
  go_wp2_with fail
  refine (up_calls _).mono ?_
  rintro e w1 ⟨rfl, hb1⟩
  replace hA0 := row_below (by exact hA0) hb1 (by exact hA0.lt)
  replace hA1 := row_below (by exact hA1) hb1 (by exact hA1.lt)
  replace hbel := Below.trans (by first | exact hbel | exact hbel.drew) (hb1.mono (by exact hbel.size))
  clear hb1
  obtain ⟨m0, m1, m2, m3⟩ := row_c4 hA0
  go_wp2_with fail
  obtain ⟨g1, g2⟩ := good_of hg
  refine (new_good M g1 g2 hM _).mono ?_
  rintro e w2 ⟨⟨b, N, Q, hK, hFr, hbw, rfl⟩, hb2⟩
  replace hA0 := row_below (by exact hA0) hb2 (by exact hA0.lt)
  replace hA1 := row_below (by exact hA1) hb2 (by exact hA1.lt)
  replace hbel := Below.trans (by first | exact hbel | exact hbel.drew) (hb2.mono (by exact hbel.size))
  clear hb2 m0 m1 m2 m3 hbw
  obtain ⟨m0, m1, m2, m3⟩ := row_c4 hA0
  have KO := veil (fun W => odd_calls M true (by simpa using hg) hM W)
  clear hg
  go_wp2_with fail
  refine (KO.out _).mono ?_
  rintro e wz ⟨rfl, hb3⟩
  replace hA0 := row_below (by exact hA0) hb3 (by exact hA0.lt)
  replace hA1 := row_below (by exact hA1) hb3 (by exact hA1.lt)
  replace hFr := Fb.below (by exact hFr) hb3 (by exact hFr.lt)
  replace hbel := Below.trans (by first | exact hbel | exact hbel.drew) (hb3.mono (by exact hbel.size))
  clear hb3 m0 m1 m2 m3 KO
  have hM1 : 1 < M := by omega
  obtain ⟨x0, x1, x2, x3⟩ := row_c4 hA1
  have KI := veil (fun W => gin_calls X M hX hM1 hM W)
  have KV := veil (fun W (h : Fb W b M N Q) => finv_calls b X M N Q hX hK W h)
  go_wp2_with fail
  refine (KV.out _ hFr).mono ?_
  rintro e w4 ⟨⟨y, hy, hy1, rfl⟩, hb4⟩
  replace hA0 := row_below (by exact hA0) hb4 (by exact hA0.lt)
  replace hA1 := row_below (by exact hA1) hb4 (by exact hA1.lt)
  replace hFr := Fb.below (by exact hFr) hb4 (by exact hFr.lt)
  replace hbel := Below.trans (by first | exact hbel | exact hbel.drew) (hb4.mono (by exact hbel.size))
  clear hb4 x0 x1 x2 x3 KV
  rw [invRet_one hgc]
  have KR := veil (fun W => rinv_yes X M y hgc hy (hy1 hgc) hM1 g1 hM W)
  have k2 := fun W => eql_num_same y W
  clear hgc hy hy1 hM1 hX hM hK g1 g2
  generalize X % M = P at *
  go_upto_region 7 with (fail)
  have zl := hA1.lt
  have hU : (w4.alloc (.cells #[.int .u64 (wd (y) 0), .int .u64 (wd (y) 1), .int .u64 (wd (y) 2), .int .u64 (wd (y) 3)] 24)).rowIs w4.heap.size 24 4 (fun j => .int .u64 (wd y j)) := row_new (n := 4) rfl rfl (arr4 fun j => .int .u64 (wd y j))
  replace hA0 := hA0.alloc (.cells #[.int .u64 (wd (y) 0), .int .u64 (wd (y) 1), .int .u64 (wd (y) 2), .int .u64 (wd (y) 3)] 24)
  replace hA1 := hA1.alloc (.cells #[.int .u64 (wd (y) 0), .int .u64 (wd (y) 1), .int .u64 (wd (y) 2), .int .u64 (wd (y) 3)] 24)
  replace hFr := hFr.alloc (.cells #[.int .u64 (wd (y) 0), .int .u64 (wd (y) 1), .int .u64 (wd (y) 2), .int .u64 (wd (y) 3)] 24)
  replace hbel := hbel.alloc hbel.size (.cells #[.int .u64 (wd (y) 0), .int .u64 (wd (y) 1), .int .u64 (wd (y) 2), .int .u64 (wd (y) 3)] 24)
  generalize w4.heap.size = ghU at *
  generalize w4.alloc (.cells #[.int .u64 (wd (y) 0), .int .u64 (wd (y) 1), .int .u64 (wd (y) 2), .int .u64 (wd (y) 3)] 24) = w5 at *
  have za := hA0.lt
  have zx := hA1.lt
  have zu := hU.lt
  obtain ⟨m0, m1, m2, m3⟩ := row_c4 hA0
  obtain ⟨x0, x1, x2, x3⟩ := row_c4 hA1
  obtain ⟨u0, u1, u2, u3⟩ := row_c4 hU
  clear hA0 hA1 hFr
  go_region_held3 (fun w' => (∀ b o, b < w5.heap.size → w'.cell? ⟨b, o, none⟩ = w5.cell? ⟨b, o, none⟩) ∧ Below w5.heap.size w5 w')
    (first
      | with_reducible exact keep_drew _
      | with_reducible exact keep_fresh _
      | with_reducible exact keep_alloc _ (by assumption)
      | ((with_reducible refine keep_swap (by assumption) ?_); first | exact Nat.le_refl _ | exact hb6.size | exact Nat.le_trans hb6.size hb7.size)
      | ((with_reducible refine keep_put4 ?_ (by assumption)); first | exact Nat.le_refl _ | exact hb6.size | exact Nat.le_trans hb6.size hb7.size)
      | with_reducible exact keep_old (by assumption) (by assumption)
      | fail "no arm")
    (first
      | (go_at_call 16; refine (KI.out _).mono ?_; rintro e w6 ⟨rfl, hb6⟩; obtain ⟨hmc, hmf, hml⟩ := below_look hb6)
      | (go_at_call 26; refine (KR.out _).mono ?_; rintro e w7 ⟨rfl, hb7⟩; obtain ⟨hpc, hpf, hpl⟩ := below_look hb7))
  all_goals rename (_ ∧ Below w5.heap.size w5 _) => hHeld
  · have hT : (w7.alloc (.cells #[.int .u64 (wd (y) 0), .int .u64 (wd (y) 1), .int .u64 (wd (y) 2), .int .u64 (wd (y) 3)] 24)).rowIs w7.heap.size 24 4 (fun j => .int .u64 (wd y j)) := row_new (n := 4) rfl rfl (arr4 fun j => .int .u64 (wd y j))
    have hUz := row_below hU hHeld.2 hU.lt
    have hBz := hbel.trans (hHeld.2.mono hbel.size)
    obtain ⟨u0, u1, u2, u3⟩ := row_c4 hUz
    obtain ⟨v0, v1, v2, v3⟩ := row_c4 hT
    go_wp2
    go_ret
    exact ⟨rfl, hBz⟩
  · have hT : ((((w7.setCell ⟨w6.heap.size, 0, none⟩ (.int .u64 (wd y 0))).setCell ⟨w6.heap.size, 1, none⟩ (.int .u64 (wd y 1))).setCell ⟨w6.heap.size, 2, none⟩ (.int .u64 (wd y 2))).setCell ⟨w6.heap.size, 3, none⟩ (.int .u64 (wd y 3))).rowIs w6.heap.size 24 4 (fun j => .int .u64 (wd y j)) := put4 (row_below (row_new (n := 4) (f := fun _ => Value.int .u64 0) rfl rfl (arr4 fun _ => Value.int .u64 0)) hb7 (by simp)) fun j => .int .u64 (wd y j)
    have hUz := row_below hU hHeld.2 hU.lt
    have hBz := hbel.trans (hHeld.2.mono hbel.size)
    obtain ⟨u0, u1, u2, u3⟩ := row_c4 hUz
    obtain ⟨v0, v1, v2, v3⟩ := row_c4 hT
    go_wp2
    go_ret
    exact ⟨rfl, hBz⟩
  · have hT : ((((w7.setCell ⟨w5.heap.size, 0, none⟩ (.int .u64 (wd y 0))).setCell ⟨w5.heap.size, 1, none⟩ (.int .u64 (wd y 1))).setCell ⟨w5.heap.size, 2, none⟩ (.int .u64 (wd y 2))).setCell ⟨w5.heap.size, 3, none⟩ (.int .u64 (wd y 3))).rowIs w5.heap.size 24 4 (fun j => .int .u64 (wd y j)) := put4 (row_below (row_below ((row_new (n := 4) (f := fun _ => Value.int .u64 0) rfl rfl (arr4 fun _ => Value.int .u64 0)).drew) hb6 (by simp)) hb7 (Nat.lt_of_lt_of_le (by simp) hb6.size)) fun j => .int .u64 (wd y j)
    have hUz := row_below hU hHeld.2 hU.lt
    have hBz := hbel.trans (hHeld.2.mono hbel.size)
    obtain ⟨u0, u1, u2, u3⟩ := row_c4 hUz
    obtain ⟨v0, v1, v2, v3⟩ := row_c4 hT
    go_wp2
    go_ret
    exact ⟨rfl, hBz⟩
end Go.Proofs.Ytkfomfpeangcdaa
