/-
  FieldBack: what has an inverse is its inverse's inverse, and their product is 1; a square is a number to 2; to 0 it is 1.
  No condition.
-/
import Derived.Test.YtkfomfpeangcdaaFUp
import Derived.Test.YtkfomfpeangcdaaFLaw
import Derived.Test.YtkfomfpeangcdaaFAdd2
import Derived.Test.YtkfomfpeangcdaaFMul2
import Derived.Test.YtkfomfpeangcdaaG9
import Derived.Test.YtkfomfpeangcdaaEql
import Derived.Deep.RegionHeld3
namespace Go.Proofs.Ytkfomfpeangcdaa
open Go.RowKit

theorem exists_of {S : World → Prop} {W : World} (h : S W) : ∃ v, v = W ∧ S v := ⟨W, rfl, h⟩
theorem fpow_two (b X M : Nat) (N : Int) (Q Z : Nat) (hX : X < top) (hK : Fok M N Q) (hZ : X * X % M = Z) (w : World) (hF : Fb w b M N Q) :
    Calls Try.prog 23 #[.pointer (some ⟨b, 0, none⟩), .agg #[.int .u64 (wd (X) 0), .int .u64 (wd (X) 1), .int .u64 (wd (X) 2), .int .u64 (wd (X) 3)], .agg #[.int .u64 2, .int .u64 0, .int .u64 0, .int .u64 0]] w fun e w' => e = .returned (.agg #[.int .u64 (wd (Z) 0), .int .u64 (wd (Z) 1), .int .u64 (wd (Z) 2), .int .u64 (wd (Z) 3)]) ∧ Below w.heap.size w w' :=
  fpow_lit b X 2 M N Q Z hX (by decide) hK (by rw [Nat.pow_two]; exact hZ) w hF
theorem fpow_zero (b X M : Nat) (N : Int) (Q : Nat) (hX : X < top) (hM1 : 1 < M) (hK : Fok M N Q) (w : World) (hF : Fb w b M N Q) :
    Calls Try.prog 23 #[.pointer (some ⟨b, 0, none⟩), .agg #[.int .u64 (wd (X) 0), .int .u64 (wd (X) 1), .int .u64 (wd (X) 2), .int .u64 (wd (X) 3)], .agg #[.int .u64 0, .int .u64 0, .int .u64 0, .int .u64 0]] w fun e w' => e = .returned (.agg #[.int .u64 1, .int .u64 0, .int .u64 0, .int .u64 0]) ∧ Below w.heap.size w w' := by
  have h := fpow_lit b X 0 M N Q 1 hX (by decide) hK (by rw [Nat.pow_zero]; exact Nat.mod_eq_of_lt hM1) w hF
  rw [lit_num 1 (by decide)] at h
  exact h
theorem fmul_one (b X Y M : Nat) (N : Int) (Q : Nat) (hX : X < top) (hY : Y < top) (hK : Fok M N Q) (h1 : X * Y % M = 1) (w : World) (hF : Fb w b M N Q) :
    Calls Try.prog 21 #[.pointer (some ⟨b, 0, none⟩), .agg #[.int .u64 (wd (X) 0), .int .u64 (wd (X) 1), .int .u64 (wd (X) 2), .int .u64 (wd (X) 3)], .agg #[.int .u64 (wd (Y) 0), .int .u64 (wd (Y) 1), .int .u64 (wd (Y) 2), .int .u64 (wd (Y) 3)]] w fun e w' => e = .returned (.agg #[.int .u64 1, .int .u64 0, .int .u64 0, .int .u64 0]) ∧ Below w.heap.size w w' := by
  have h := fmul2_calls b X Y M N Q 1 hX hY hK h1 w hF
  rw [lit_num 1 (by decide)] at h
  exact h
theorem neq_num_same (X : Nat) (w : World) : (binOp .neq 24 (.agg #[.int .u64 (wd (X) 0), .int .u64 (wd (X) 1), .int .u64 (wd (X) 2), .int .u64 (wd (X) 3)]) (.agg #[.int .u64 (wd (X) 0), .int .u64 (wd (X) 1), .int .u64 (wd (X) 2), .int .u64 (wd (X) 3)])).run Try.prog w = .ok (.bool false) w := by
  have h := neq4 (wd X) (wd X) w
  rw [all_wd 4 X X] at h
  simpa using h
theorem neq_lit1 (w : World) : (binOp .neq 24 (.agg #[.int .u64 1, .int .u64 0, .int .u64 0, .int .u64 0]) (.agg #[.int .u64 1, .int .u64 0, .int .u64 0, .int .u64 0])).run Try.prog w = .ok (.bool false) w := by
  have h := neq_num_same 1 w
  rw [lit_num 1 (by decide)] at h
  exact h
theorem neq_err4 (w : World) : (binOp .neq 30 (.iface 34 (.int .i64 4)) .nilIface).run Try.prog w = .ok (.bool true) w := by kernel_rfl
theorem gcd_of {a M y : Nat} (h : a * y % M = 1) : Nat.gcd y M = 1 := by
  have hd1 : Nat.gcd y M ∣ a * y := Nat.dvd_trans (Nat.gcd_dvd_left y M) (Nat.dvd_mul_left y a)
  have hd2 : Nat.gcd y M ∣ a * y % M := (Nat.dvd_mod_iff (Nat.gcd_dvd_right y M)).2 hd1
  rw [h] at hd2
  exact Nat.dvd_one.1 hd2
theorem inv_unique2 {a M y z : Nat} (hy : y < M) (hz : z < M) (h1 : a * y % M = 1) (h2 : a * z % M = 1) : y = z := by
  have e1 : z * (a * y) % M = z % M := by rw [← Nat.mul_mod_mod, h1, Nat.mul_one]
  have e2 : y * (a * z) % M = y % M := by rw [← Nat.mul_mod_mod, h2, Nat.mul_one]
  have e3 : z * (a * y) = y * (a * z) := by rw [Nat.mul_left_comm, Nat.mul_comm z y, Nat.mul_left_comm]
  rw [e3, e2, Nat.mod_eq_of_lt hy, Nat.mod_eq_of_lt hz] at e1
  exact e1

set_option maxRecDepth 100000 in
set_option maxHeartbeats 8000000 in
theorem back_walk (M : Nat) (X : Nat) (hM : M < top) (hX : X < top) (w : World) :
    Calls Try.prog 8 #[.agg #[.int .u64 (wd (M) 0), .int .u64 (wd (M) 1), .int .u64 (wd (M) 2), .int .u64 (wd (M) 3)], .agg #[.int .u64 (wd (X) 0), .int .u64 (wd (X) 1), .int .u64 (wd (X) 2), .int .u64 (wd (X) 3)]] w fun e w' => e = .returned (.bool true) ∧ Below w.heap.size w w' := by
  have hA0 : ((w.alloc (.cells #[.int .u64 (wd (M) 0), .int .u64 (wd (M) 1), .int .u64 (wd (M) 2), .int .u64 (wd (M) 3)] 24)).alloc (.cells #[.int .u64 (wd (X) 0), .int .u64 (wd (X) 1), .int .u64 (wd (X) 2), .int .u64 (wd (X) 3)] 24)).rowIs w.heap.size 24 4 (fun j => .int .u64 (wd M j)) := (row_new (n := 4) (by simp) rfl (arr4 fun j => .int .u64 (wd M j))).alloc _
  have hA1 : ((w.alloc (.cells #[.int .u64 (wd (M) 0), .int .u64 (wd (M) 1), .int .u64 (wd (M) 2), .int .u64 (wd (M) 3)] 24)).alloc (.cells #[.int .u64 (wd (X) 0), .int .u64 (wd (X) 1), .int .u64 (wd (X) 2), .int .u64 (wd (X) 3)] 24)).rowIs (w.heap.size + 1) 24 4 (fun j => .int .u64 (wd X j)) := row_new (n := 4) (by simp) rfl (arr4 fun j => .int .u64 (wd X j))
  have hbel : Below w.heap.size w ((w.alloc (.cells #[.int .u64 (wd (M) 0), .int .u64 (wd (M) 1), .int .u64 (wd (M) 2), .int .u64 (wd (M) 3)] 24)).alloc (.cells #[.int .u64 (wd (X) 0), .int .u64 (wd (X) 1), .int .u64 (wd (X) 2), .int .u64 (wd (X) 3)] 24)) := ((Below.refl _ _).alloc (by simp) _).alloc (by simp) _
  go_enter Try.func8, Try.ntmps8
  go_wp2_with fail
  refine (up_calls _).mono ?_
  rintro e w1 ⟨rfl, hb1⟩
  replace hA0 := row_below (by exact hA0) hb1 (by exact hA0.lt)
  replace hA1 := row_below (by exact hA1) hb1 (by exact hA1.lt)
  replace hbel := Below.trans (by first | exact hbel | exact hbel.drew) (hb1.mono (by exact hbel.size))
  clear hb1
  obtain ⟨m0, m1, m2, m3⟩ := row_c4 hA0
  go_wp2_with fail
  by_cases hg : oddB M = false
  · refine (new_bad M hg hM _).mono ?_
    rintro e w2 ⟨rfl, hb2⟩
    replace hA0 := row_below (by exact hA0) hb2 (by exact hA0.lt)
    replace hA1 := row_below (by exact hA1) hb2 (by exact hA1.lt)
    replace hbel := Below.trans (by first | exact hbel | exact hbel.drew) (hb2.mono (by exact hbel.size))
    clear hb2 m0 m1 m2 m3
    obtain ⟨m0, m1, m2, m3⟩ := row_c4 hA0
    have k1 := fun W => eql_err1 W
    have KO := veil (fun W => odd_calls M false hg hM W)
    clear hg
    go_wp2_with fail
    refine (KO.out _).mono ?_
    rintro e w3 ⟨rfl, hb3⟩
    replace hA0 := row_below (by exact hA0) hb3 (by exact hA0.lt)
    replace hA1 := row_below (by exact hA1) hb3 (by exact hA1.lt)
    replace hbel := Below.trans (by first | exact hbel | exact hbel.drew) (hb3.mono (by exact hbel.size))
    clear hb3 m0 m1 m2 m3
    go_wp2
    go_ret
    exact ⟨rfl, hbel⟩
  · obtain ⟨g1, g2⟩ := good_of hg
    refine (new_good M g1 g2 hM _).mono ?_
    rintro e w2 ⟨⟨b, N, Q, hK, hFr, hbw, rfl⟩, hb2⟩
    replace hA0 := row_below (by exact hA0) hb2 (by exact hA0.lt)
    replace hA1 := row_below (by exact hA1) hb2 (by exact hA1.lt)
    replace hbel := Below.trans (by first | exact hbel | exact hbel.drew) (hb2.mono (by exact hbel.size))
    clear hb2 m0 m1 m2 m3 hbw
    obtain ⟨m0, m1, m2, m3⟩ := row_c4 hA0
    have KO := veil (fun W => odd_calls M true (by simpa using hg) hM W)
    clear hg
    go_wp2_with fail
    refine (KO.out _).mono ?_
    rintro e wz ⟨rfl, hb3⟩
    replace hA0 := row_below (by exact hA0) hb3 (by exact hA0.lt)
    replace hA1 := row_below (by exact hA1) hb3 (by exact hA1.lt)
    replace hFr := Fb.below (by exact hFr) hb3 (by exact hFr.lt)
    replace hbel := Below.trans (by first | exact hbel | exact hbel.drew) (hb3.mono (by exact hbel.size))
    clear hb3 m0 m1 m2 m3 KO
    have hM1 : 1 < M := by omega
    obtain ⟨P, hP⟩ : ∃ P, P = X * X % M := ⟨_, rfl⟩
    obtain ⟨F, hF⟩ : ∃ F, F = X % M := ⟨_, rfl⟩
    have hFM : F < M := by rw [hF]; exact Nat.mod_lt _ (by omega)
    have K1 := veil (fun W (h : Fb W b M N Q) => fpow_two b X M N Q P hX hK hP.symm W h)
    have K2 := veil (fun W (h : Fb W b M N Q) => fmul2_calls b X X M N Q P hX hX hK hP.symm W h)
    have K3 := veil (fun W (h : Fb W b M N Q) => fpow_zero b X M N Q hX hM1 hK W h)
    have KV := veil (fun W (h : Fb W b M N Q) => finv_calls b X M N Q hX hK W h)
    have KA := veil (fun W (h : Fb W b M N Q) => fadd_zero b X M N Q F hX hK hF.symm W h)
    have kn1 := fun W => neq_num_same P W
    have kn2 := fun W => neq_lit1 W
    have HH := veil (show X < top ∧ M < top ∧ Fok M N Q ∧ M % 2 = 1 ∧ 1 < M ∧ F = X % M ∧ F < M from ⟨hX, hM, hK, g1, hM1, hF, hFM⟩)
    clear hP hX hM hK g1 g2 hM1 hF hFM
    go_wp2_with fail
    apply via_key
    · intro key
      obtain ⟨c00, c01, c02, c03⟩ := row_c4 hA0
      have z0 := hA0.lt
      obtain ⟨c10, c11, c12, c13⟩ := row_c4 hA1
      have z1 := hA1.lt
      have zf := hFr.lt
      go_region_held3 (fun w' => (∀ b o, b < wz.heap.size → w'.cell? ⟨b, o, none⟩ = wz.cell? ⟨b, o, none⟩) ∧ Below wz.heap.size wz w')
        (first
          | with_reducible exact keep_drew _
          | with_reducible exact keep_old (by assumption) (by assumption)
          | exact keep_drew _
          | exact keep_old (by assumption) (by assumption))
        (first
          | (go_at_call 23; (first | with_reducible refine (K1.out _ ?hf).mono ?_ | with_reducible refine (K3.out _ ?hf).mono ?_); (case hf => first | with_reducible exact hFr | with_reducible exact hFr.drew | with_reducible exact held_fb hFr (by assumption) | exact held_fb hFr (by assumption) | exact hFr); rintro e w' ⟨rfl, hb'⟩)
          | (go_at_call 21; (first | with_reducible refine (K2.out _ ?hf).mono ?_); (case hf => first | with_reducible exact hFr | with_reducible exact hFr.drew | with_reducible exact held_fb hFr (by assumption) | exact held_fb hFr (by assumption) | exact hFr); rintro e w' ⟨rfl, hb'⟩))
      obtain ⟨v, hv, hv2⟩ := exists_of (S := fun v => Below wz.heap.size wz v) (by assumption : _ ∧ Below wz.heap.size wz _).2
      rw [← hv]
      clear hv
      revert hv2
      revert v
      exact key
      all_goals
        have hh := (by assumption : _ ∧ Below wz.heap.size wz _)
        exact key _ hh.2
    · intro v hv
      replace hA0 := row_below (by exact hA0) hv (by exact hA0.lt)
      replace hA1 := row_below (by exact hA1) hv (by exact hA1.lt)
      replace hFr := Fb.below (by exact hFr) hv (by exact hFr.lt)
      replace hbel := Below.trans (by first | exact hbel | exact hbel.drew) (hv.mono (by exact hbel.size))
      clear hv K1 K2 K3 kn1 kn2
      obtain ⟨x0, x1, x2, x3⟩ := row_c4 hA1
      go_wp2_with fail
      refine (KV.out _ hFr).mono ?_
      rintro e w4 ⟨⟨y, hy, hy1, rfl⟩, hb4⟩
      replace hA0 := row_below (by exact hA0) hb4 (by exact hA0.lt)
      replace hA1 := row_below (by exact hA1) hb4 (by exact hA1.lt)
      replace hFr := Fb.below (by exact hFr) hb4 (by exact hFr.lt)
      replace hbel := Below.trans (by first | exact hbel | exact hbel.drew) (hb4.mono (by exact hbel.size))
      clear hb4 x0 x1 x2 x3 KV
      obtain ⟨hX, hM, hK, g1, hM1, hF, hFM⟩ := HH.out
      clear HH
      by_cases hgc : Nat.gcd X M = 1
      · rw [invRet_one hgc]
        have hy1 := hy1 hgc
        have hyt : y < top := by omega
        have hgy := gcd_of hy1
        have KM := veil (fun W (h : Fb W b M N Q) => fmul_one b X y M N Q hX hyt hK hy1 W h)
        have KV := veil (fun W (h : Fb W b M N Q) => finv_calls b y M N Q hyt hK W h)
        have k1 := fun W => eql_lit 1 0 0 0 W
        have k2 := fun W => eql_num_same F W
        have HY := veil (And.intro hy1 (And.intro hF hFM))
        clear hgc hy1 hX hM hK g1 hM1 hF hFM hyt hy
        go_upto_region 11 with (fail)
        have hU : (w4.alloc (.cells #[.int .u64 (wd (y) 0), .int .u64 (wd (y) 1), .int .u64 (wd (y) 2), .int .u64 (wd (y) 3)] 24)).rowIs w4.heap.size 24 4 (fun j => .int .u64 (wd y j)) := row_new (n := 4) rfl rfl (arr4 fun j => .int .u64 (wd y j))
        replace hA0 := hA0.alloc (.cells #[.int .u64 (wd (y) 0), .int .u64 (wd (y) 1), .int .u64 (wd (y) 2), .int .u64 (wd (y) 3)] 24)
        replace hA1 := hA1.alloc (.cells #[.int .u64 (wd (y) 0), .int .u64 (wd (y) 1), .int .u64 (wd (y) 2), .int .u64 (wd (y) 3)] 24)
        replace hFr := hFr.alloc (.cells #[.int .u64 (wd (y) 0), .int .u64 (wd (y) 1), .int .u64 (wd (y) 2), .int .u64 (wd (y) 3)] 24)
        replace hbel := hbel.alloc hbel.size (.cells #[.int .u64 (wd (y) 0), .int .u64 (wd (y) 1), .int .u64 (wd (y) 2), .int .u64 (wd (y) 3)] 24)
        generalize w4.heap.size = ghU at *
        generalize w4.alloc (.cells #[.int .u64 (wd (y) 0), .int .u64 (wd (y) 1), .int .u64 (wd (y) 2), .int .u64 (wd (y) 3)] 24) = w5 at *
        obtain ⟨u0, u1, u2, u3⟩ := row_c4 hU
        go_wp2_with fail
        refine (KV.out _ hFr).mono ?_
        rintro e w6 ⟨⟨z, hz, hz1, rfl⟩, hb6⟩
        rw [invRet_one hgy]
        obtain rfl : z = F := inv_unique2 (a := y) hz HY.out.2.2 (hz1 hgy) (by rw [HY.out.2.1, Nat.mul_mod_mod, Nat.mul_comm]; exact HY.out.1)
        replace hA0 := row_below (by exact hA0) hb6 (by exact hA0.lt)
        replace hA1 := row_below (by exact hA1) hb6 (by exact hA1.lt)
        replace hU := row_below (by exact hU) hb6 (by exact hU.lt)
        replace hFr := Fb.below (by exact hFr) hb6 (by exact hFr.lt)
        replace hbel := Below.trans (by first | exact hbel | exact hbel.drew) (hb6.mono (by exact hbel.size))
        clear hb6 u0 u1 u2 u3 hz hz1 hgy HY KV
        go_upto_region 12 with (fail)
        have hV : (w6.alloc (.cells #[.int .u64 (wd (z) 0), .int .u64 (wd (z) 1), .int .u64 (wd (z) 2), .int .u64 (wd (z) 3)] 24)).rowIs w6.heap.size 24 4 (fun j => .int .u64 (wd z j)) := row_new (n := 4) rfl rfl (arr4 fun j => .int .u64 (wd z j))
        replace hA0 := hA0.alloc (.cells #[.int .u64 (wd (z) 0), .int .u64 (wd (z) 1), .int .u64 (wd (z) 2), .int .u64 (wd (z) 3)] 24)
        replace hA1 := hA1.alloc (.cells #[.int .u64 (wd (z) 0), .int .u64 (wd (z) 1), .int .u64 (wd (z) 2), .int .u64 (wd (z) 3)] 24)
        replace hU := hU.alloc (.cells #[.int .u64 (wd (z) 0), .int .u64 (wd (z) 1), .int .u64 (wd (z) 2), .int .u64 (wd (z) 3)] 24)
        replace hFr := hFr.alloc (.cells #[.int .u64 (wd (z) 0), .int .u64 (wd (z) 1), .int .u64 (wd (z) 2), .int .u64 (wd (z) 3)] 24)
        replace hbel := hbel.alloc hbel.size (.cells #[.int .u64 (wd (z) 0), .int .u64 (wd (z) 1), .int .u64 (wd (z) 2), .int .u64 (wd (z) 3)] 24)
        generalize w6.heap.size = ghV at *
        generalize w6.alloc (.cells #[.int .u64 (wd (z) 0), .int .u64 (wd (z) 1), .int .u64 (wd (z) 2), .int .u64 (wd (z) 3)] 24) = wz2 at *
        obtain ⟨c00, c01, c02, c03⟩ := row_c4 hA0
        have z0 := hA0.lt
        obtain ⟨c10, c11, c12, c13⟩ := row_c4 hA1
        have z1 := hA1.lt
        have zf := hFr.lt
        obtain ⟨u0, u1, u2, u3⟩ := row_c4 hU
        obtain ⟨v0, v1, v2, v3⟩ := row_c4 hV
        have zu := hU.lt
        have zv := hV.lt
        clear hA0 hA1 hU hV
        go_wp2_with fail
        as_aux_lemma =>
        go_region_held3 (fun w' => (∀ b o, b < wz2.heap.size → w'.cell? ⟨b, o, none⟩ = wz2.cell? ⟨b, o, none⟩) ∧ Below wz2.heap.size wz2 w')
          (first
            | with_reducible exact keep_drew _
            | with_reducible exact keep_old (by assumption) (by assumption)
            | exact keep_drew _
            | exact keep_old (by assumption) (by assumption))
          (first
            | (go_at_call 21; refine (KM.out _ (by first | with_reducible exact hFr | with_reducible exact hFr.drew | with_reducible exact held_fb hFr (by assumption) | exact held_fb hFr (by assumption) | exact hFr)).mono ?_; rintro e w' ⟨rfl, hb'⟩)
            | (go_at_call 17; refine (KA.out _ (by first | with_reducible exact hFr | with_reducible exact hFr.drew | with_reducible exact held_fb hFr (by assumption) | exact held_fb hFr (by assumption) | exact hFr)).mono ?_; rintro e w' ⟨rfl, hb'⟩))
        all_goals
          go_wp2
          go_ret
          have hh := (by assumption : _ ∧ Below wz2.heap.size wz2 _)
          exact ⟨rfl, hbel.trans (hh.2.mono hbel.size)⟩
      · rw [invRet_no hgc]
        have k1 := fun W => neq_err4 W
        clear hgc hy hy1 hX hM hK g1 hM1 hF hFM KA
        go_wp2
        go_ret
        exact ⟨rfl, hbel.alloc hbel.size _⟩

/-! ### the statement -/
section
open Go.ChangeShapes Go.WideShapes Go.ChangeAt
set_option maxRecDepth 100000 in
theorem FieldBack_lifted (os : Os) (started : os.Started) (H : Type) (enc : TypeId × Value → H) :
    ReturnsInHanded {} Try.checked os 8 .any (Rows.fieldBackSpec.pre6 enc Try.prog Try.f8 Rows.fieldBackRow.domain false) (Rows.fieldBackSpec.post enc Try.prog Try.f8 false true false false) := by
  refine returnsInHanded_of_change (C := Try.checked) own started (by kernel_rfl) Try.func8
    (ChangeSpec.witness6 (enc := enc) (C := Try.checked) false ⟨#[], #[.agg #[.int .u64 0, .int .u64 0, .int .u64 0, .int .u64 0], .agg #[.int .u64 0, .int .u64 0, .int .u64 0, .int .u64 0]], []⟩ 8 (by kernel_rfl) (by kernel_rfl) (by kernel_rfl) (by kernel_rfl)) ?_
  intro W base args ds gs before hval0 hW _ _
  have hval : ∀ (j : Nat) t v, Try.f8.params[j]? = some t → args[j]? = some v → Value.okWide Try.prog W .any base t v := hval0
  have hW' := hW
  obtain ⟨p, q, hA0, hV, rfl, _, _⟩ := hW
  have hA : DataW.TrodAll enc Try.prog W 0 (fun _ => true) true Try.f8.params.toList args.toList ds p := hA0
  rw [Try.params8] at hA hval
  obtain ⟨v0, v1, d0, d1, p0, p1, rfl, rfl, rfl, h0, h1⟩ := trodAll_two hA
  obtain ⟨rfl, rfl⟩ := trodVars_none hV
  obtain ⟨M, hM, rfl, rfl, rfl⟩ := open_num (hval 0 24 v0 rfl rfl) h0
  obtain ⟨X, hX, rfl, rfl, rfl⟩ := open_num (hval 1 24 v1 rfl rfl) h1
  clear hA0 hval0
  simp only [List.append_nil] at hW'
  refine (back_walk M X hM hX W).mono fun e W' ⟨he, hb⟩ => ?_
  subst he
  exact ⟨_, rfl, _, _, _, [], [], [], hW', trodAll_mk1 (shut_bool Try.underlying4 true), trodAll_mk2 (shut_num W' 0 _ true M) (shut_num W' 0 _ true X), rfl, hb.frame _, fun h => by cases h⟩

theorem FieldBack_over : Rows.fieldBackRow.holds Try.pinned (OpenSpec.ofChange Rows.fieldBackSpec) :=
  OpenClaim.holds_of_wide 8 Try.f8 rfl rfl rfl rfl rfl rfl rfl ⟨rfl, rfl, rfl, rfl, rfl⟩ rfl rfl rfl rfl rfl (by kernel_rfl) Try.func8 (by kernel_rfl)
    (of_decide_eq_true (by kernel_rfl)) (by unfold Func.isWrapper; rw [if_neg (of_decide_eq_false (by kernel_rfl))]; exact ⟨rfl, rfl⟩)
    (fun os started H enc _ => FieldBack_lifted os started H enc)

theorem FieldBack_holds : Rows.FieldBackSaid :=
  FieldBack_over
end

#print axioms FieldBack_holds
end Go.Proofs.Ytkfomfpeangcdaa
