/-
  slices.SortFunc of rides by their beginnings: the same ones, sorted.
-/
import Derived.Test.YtebcdhfmhnhalaaSog
import Derived.Test.YtebcdhfmhnhalaaNwo
import Derived.Test.YtebcdhfmhnhalaaSvm
import Derived.Test.YtebcdhfmhnhalaaRSD
namespace Go.Proofs.Ytebcdhfmhnhalaa
open Go.RowKit Go.Shelf Go.Lib Go.Sort

instance : Inhabited Rd := ⟨noRd⟩
def cfD (x y : Rd) : Int := ciS x.bg y.bg
theorem swoD : SWO (ltOf cfD) where
  irrefl x := by unfold ltOf cfD; rw [decide_eq_false]; rw [ciS_lt]; omega
  trans x y z h1 h2 := by
    unfold ltOf cfD at *
    rw [decide_eq_true_iff, ciS_lt] at *
    omega
  ntrans x y z h1 h2 := by
    unfold ltOf cfD at *
    rw [decide_eq_false_iff_not, ciS_lt] at *
    omega

set_option maxRecDepth 100000 in
set_option maxHeartbeats 2000000 in
theorem compare13_calls (a b : Int) (w : World) : Calls Try.prog 27 #[.int .i64 a, .int .i64 b] w fun e w' => e = .returned (.int .i64 (ciS a b)) ∧ w' = w := by
  have K := veil (fun x W => isNaN12_calls x W)
  obtain ⟨R, hR⟩ : ∃ R, R = ciS a b := ⟨_, rfl⟩
  rw [← hR]
  unfold ciS at hR
  by_cases h1 : a < b
  · have hd1 : decide (a < b) = true := decide_eq_true h1
    rw [if_pos h1] at hR
    subst hR
    clear h1
    go_enter Try.func27, Try.ntmps27
    go_wp2_with (go_at_call 35; refine (K.out _ _).mono ?_; rintro e w' ⟨rfl, rfl⟩)
    go_ret
    exact ⟨rfl, rfl⟩
  · have hd1 : decide (a < b) = false := decide_eq_false h1
    rw [if_neg h1] at hR
    by_cases h2 : b < a
    · have hd2 : decide (b < a) = true := decide_eq_true h2
      rw [if_pos h2] at hR
      subst hR
      clear h1 h2
      go_enter Try.func27, Try.ntmps27
      go_wp2_with (go_at_call 35; refine (K.out _ _).mono ?_; rintro e w' ⟨rfl, rfl⟩)
      go_ret
      exact ⟨rfl, rfl⟩
    · have hd2 : decide (b < a) = false := decide_eq_false h2
      rw [if_neg h2] at hR
      subst hR
      clear h1 h2
      go_enter Try.func27, Try.ntmps27
      go_wp2_with (go_at_call 35; refine (K.out _ _).mono ?_; rintro e w' ⟨rfl, rfl⟩)
      go_ret
      exact ⟨rfl, rfl⟩

set_option maxRecDepth 100000 in
set_option maxHeartbeats 2000000 in
theorem cmpRd_calls (x y : Rd) (w : World) : Calls Try.prog 26 #[.agg (rdC x).toArray, .agg (rdC y).toArray] w fun e w' => e = .returned (.int .i64 (cfD x y)) ∧ GrnS w w' := by
  have K := veil (fun W => compare13_calls x.bg y.bg W)
  have hx : RdAt (w.alloc (.cells (rdC x).toArray 56)) w.heap.size x := heap_new w (.cells (rdC x).toArray 56)
  have hx2 := hx.ext (Ext.alloc _ (.cells (rdC y).toArray 56))
  have hy : RdAt ((w.alloc (.cells (rdC x).toArray 56)).alloc (.cells (rdC y).toArray 56)) (w.heap.size + 1) y := by
    have h := heap_new (w.alloc (.cells (rdC x).toArray 56)) (.cells (rdC y).toArray 56)
    rwa [World.size_alloc] at h
  have hG := ((GrnS.refl w).alloc (.cells (rdC x).toArray 56)).alloc (.cells (rdC y).toArray 56)
  have c1 := hx2.at1
  have d1 := hy.at1
  clear hx hx2 hy
  unfold cfD
  obtain ⟨x0, x1, x2, x3⟩ := x
  obtain ⟨y0, y1, y2, y3⟩ := y
  simp only [rdC] at K hG c1 d1 ⊢
  obtain ⟨R, hR⟩ : ∃ R, R = ciS x1 y1 := ⟨_, rfl⟩
  rw [← hR] at K ⊢
  clear hR
  have HG := veil hG
  clear hG
  go_enter Try.func26, Try.ntmps26
  go_upto_region 1 with (fail)
  generalize (w.alloc (.cells #[.int .i64 x0, .int .i64 x1, .int .i64 x2, .int .i64 x3] 56)).alloc (.cells #[.int .i64 y0, .int .i64 y1, .int .i64 y2, .int .i64 y3] 56) = wz at *
  go_wp2_with (go_at_call 27; refine (K.out _).mono ?_; rintro e w' ⟨rfl, rfl⟩)
  go_ret
  exact ⟨rfl, HG.out⟩

theorem sortRd_calls (v : Value) (l : List Rd) (base : Nat) (w : World) (hO : OwnL 4 rdC w base 56 v l) (hl : l.length ≤ 1000000) :
    Calls Try.prog 25 #[v, .func (.func 26) #[] #[]] w fun e w' => e = .returned (.tuple #[]) ∧ ∃ d : List Rd, (d.Pairwise fun a b => a.bg ≤ b.bg) ∧ d.Perm l ∧ OwnL 4 rdC w' base 56 v d ∧ w.grownBy w' v.ownBlock := by
  obtain ⟨hlen, hO⟩ := hO
  rcases hO with ⟨rfl, h0⟩ | ⟨g, cap, cur, rfl, hb, hh, hn, hm, hs, ht⟩
  · obtain rfl : l = [] := List.length_eq_zero_iff.1 h0
    refine (AnyF.slices_SortFunc_none (P := Try.prog) (ρ := sortD_ren) sortD none 0 _ w).mono ?_
    rintro e w' ⟨rfl, rfl⟩
    exact ⟨rfl, [], List.Pairwise.nil, List.Perm.refl _, OwnL.nil _ _ _, World.grownBy.refl _ _⟩
  · have eg : ∀ args w, (callFunc 26 args).run Try.prog w = .ok (.enter 26 args) w := enters_of Try.func26 (by kernel_rfl) rfl
    have hH : HoldsK rdC 4 w g 0 l.toArray := holdsS (by decide) rdC_length hh hs hn ht
    have hcon := AnyQ.slices_SortFunc (P := Try.prog) (ρ := sortD_ren) sortD 4 Try.isAgg56 Try.sizeOf56 rdC rdC_length rdC_one cfD swoD 26 #[] g 0 cap l.toArray w eg (fun _ _ _ _ x y => cmpRd_calls x y _) hH (Array.getElem?_eq_some_iff.1 hh).1 (by rw [List.size_toArray]; omega)
    rw [List.size_toArray] at hcon
    refine Calls.mono hcon ?_
    rintro e w' ⟨rfl, d', n, os, hp, hsd, rfl⟩
    have hds : d'.size = l.length := by rw [hp.1, List.size_toArray]
    obtain ⟨h1, h2⟩ := sortS_own (m := n) (os := os) (by decide) rdC_length hb hh hn hm hs hds
    refine ⟨rfl, d'.toList, (srtS_list (by rw [hds]; exact hsd)).imp fun {a b} h => ?_, by simpa using permS_list (d := l.toArray) (by rw [List.size_toArray]; exact hp), h1, h2⟩
    unfold cfD at h
    rw [ciS_lt] at h
    omega
end Go.Proofs.Ytebcdhfmhnhalaa
