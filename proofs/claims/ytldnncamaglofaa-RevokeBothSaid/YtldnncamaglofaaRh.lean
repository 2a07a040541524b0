/-
  revoke.Merge: the landed package's own.
-/
import Derived.Test.YtldnncamaglofaaRe
import Derived.Test.YtldnncamaglofaaRf
import Derived.Test.YtldnncamaglofaaRg
import Derived.Test.YtldnncamaglofaaRn
namespace Go.Proofs.Ytldnncamaglofaa
open Go.RowKit

/-- What Merge answers. -/
def MergeA (w' : World) (a b : List Rv) (x ev : Value) : Prop :=
  ((mayRs a && mayRs b) = false ∧ x = .slice none 0 0 ∧ ev = .iface 32 (.int .i64 1)) ∨
  ((mayRs a && mayRs b) = true ∧ 200 < (mergeR a b).length ∧ x = .slice none 0 0 ∧ ev = .iface 32 (.int .i64 3)) ∨
  ((mayRs a && mayRs b) = true ∧ (mergeR a b).length ≤ 200 ∧ ev = .nilIface ∧ Rs w' x (mergeR a b))

set_option maxRecDepth 100000 in
set_option maxHeartbeats 8000000 in
theorem merge11_calls (va vb : Value) (a b : List Rv) (w : World) (hA : Rs w va a) (hB : Rs w vb b) (hla : a.length ≤ 1000) (hlb : b.length ≤ 1000) :
    Calls Try.prog 16 #[va, vb] w fun e w' => ∃ x ev, e = .returned (.tuple #[x, ev]) ∧ Ext w w' ∧ MergeA w' a b x ev := by
  have hA' := hA
  have hB' := hB
  obtain ⟨Aa, ca, hva, _, _⟩ := hA'
  obtain ⟨Ab, cb, hvb, _, _⟩ := hB'
  obtain ⟨ma, hma0⟩ : ∃ m, m = a.length := ⟨_, rfl⟩
  obtain ⟨mb, hmb0⟩ : ∃ m, m = b.length := ⟨_, rfl⟩
  rw [← hma0] at hva
  rw [← hmb0] at hvb
  clear hma0 hmb0
  subst hva hvb
  have KA := veil (fun W (h : Ext w W) => may11_calls (.slice Aa ma ca) a W (hA.ext h) (by omega))
  have KB := veil (fun W (h : Ext w W) => may11_calls (.slice Ab mb cb) b W (hB.ext h) (by omega))
  have HV := veil (And.intro hA (And.intro hB (And.intro hla hlb)))
  clear hA hB hla hlb
  cases hma : mayRs a with
  | false =>
    rw [hma] at KA
    have HM := veil hma
    clear hma
    go_enter Try.func16, Try.ntmps16
    go_wp2_with (go_at_call 10; refine (KA.out _ (Ext.refl _)).mono ?_; rintro e w1 ⟨rfl, hE1⟩)
    go_ret2
    exact ⟨_, _, rfl, hE1, .inl ⟨by rw [HM.out]; rfl, rfl, rfl⟩⟩
  | true =>
    rw [hma] at KA
    cases hmb : mayRs b with
    | false =>
      rw [hmb] at KB
      have HM := veil hmb
      clear hma hmb
      go_enter Try.func16, Try.ntmps16
      go_wp2_with (first
        | (go_at_call 10; refine (KA.out _ (Ext.refl _)).mono ?_; clear KA; rintro e w1 ⟨rfl, hE1⟩)
        | (go_at_call 10; refine (KB.out _ hE1).mono ?_; rintro e w2 ⟨rfl, hE2⟩))
      go_ret2
      exact ⟨_, _, rfl, hE1.trans hE2, .inl ⟨by rw [HM.out, Bool.and_false], rfl, rfl⟩⟩
    | true =>
      rw [hmb] at KB
      have HM := veil (And.intro hma hmb)
      clear hma hmb
      go_enter Try.func16, Try.ntmps16
      go_upto_region 3 with (first
        | (go_at_call 10; refine (KA.out _ (Ext.refl _)).mono ?_; clear KA; rintro e w1 ⟨rfl, hE1⟩)
        | (go_at_call 10; refine (KB.out _ hE1).mono ?_; rintro e w2 ⟨rfl, hE2⟩))
      have hE := hE1.trans hE2
      have hE3 := hE.trans (Ext.alloc w2 (.cells #[.slice Aa ma ca, .slice Ab mb cb] 22))
      have KC := veil (concatR_calls (.slice Aa ma ca) (.slice Ab mb cb) a b w2.heap.size _ (HV.out.1.ext hE3) (HV.out.2.1.ext hE3) HV.out.2.2.1 HV.out.2.2.2 (heap_new w2 (.cells #[.slice Aa ma ca, .slice Ab mb cb] 22)))
      have HE3 := veil (And.intro hE3 (Below.size hE3))
      clear hE1 hE2 hE hE3 KB
      go_upto_region 4 with (go_at_call 29; refine KC.out.mono ?_; rintro e w4 ⟨v, rfl, hO4, hE4⟩)
      have hab : (a ++ b).length ≤ 2000 := by rw [List.length_append]; have := HV.out.2.2; omega
      have KS := veil (sortRv_calls v (a ++ b) _ w4 hO4 (by omega))
      have HE4 := veil (And.intro (HE3.out.1.trans hE4) (And.intro (show ∀ k, v.ownBlock = some k → w.heap.size ≤ k from fun k hk => Nat.le_trans HE3.out.2 (hO4.lt hk).1) hab))
      clear hO4 hE4 KC hab
      go_upto_region 5 with (go_at_call 30; refine KS.out.mono ?_; rintro e w5 ⟨rfl, d, hsrt, hperm, hO5, hG5⟩)
      have hE5 := HE4.out.1.grown hG5 (Below.size HE4.out.1) HE4.out.2.1
      have hcm : cpt d = mergeR a b := cpt_merge (mayRs_ris HM.out.1) (mayRs_ris HM.out.2) hsrt hperm
      have KP := veil (compactR_calls v d _ w5 hO5 (by rw [hperm.length_eq]; have := HE4.out.2.2; omega))
      rw [hcm] at KP
      have HE5 := veil hE5
      clear hE5 hcm hO5 hG5 hsrt hperm KS
      go_upto_region 6 with (go_at_call 32; refine KP.out.mono ?_; rintro e w6 ⟨⟨v', rfl, hR6⟩, hG6⟩)
      have hE6 := HE5.out.grown hG6 (Below.size HE5.out) HE4.out.2.1
      have hR6' := hR6
      obtain ⟨A6, c6, hv6, _, _⟩ := hR6'
      subst hv6
      have HR := veil (And.intro hR6 hE6)
      obtain ⟨L, hL⟩ : ∃ L, L = (mergeR a b).length := ⟨_, rfl⟩
      rw [← hL] at HR ⊢
      have HL := veil hL
      clear hR6 hG6 hE6 hL KP
      by_cases hbig : 200 < L
      · have hd : decide (200 < (L : Int)) = true := by simp; omega
        have HB := veil hbig
        clear hbig
        go_wp2
        go_ret2
        exact ⟨_, _, rfl, HR.out.2, .inr (.inl ⟨by rw [HM.out.1, HM.out.2]; rfl, by rw [← HL.out]; exact HB.out, rfl, rfl⟩)⟩
      · have hd : decide (200 < (L : Int)) = false := by simp; omega
        have HB := veil hbig
        clear hbig
        go_wp2
        go_ret2
        exact ⟨_, _, rfl, HR.out.2, .inr (.inr ⟨by rw [HM.out.1, HM.out.2]; rfl, by rw [← HL.out]; have := HB.out; omega, rfl, HR.out.1⟩)⟩
end Go.Proofs.Ytldnncamaglofaa
