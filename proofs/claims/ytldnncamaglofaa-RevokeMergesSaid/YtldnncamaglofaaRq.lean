/-
  clapperlaw11.RevokeMerges, walked.
-/
import Derived.Test.YtldnncamaglofaaRh
import Derived.Test.YtldnncamaglofaaRi
import Derived.Test.YtldnncamaglofaaRl
namespace Go.Proofs.Ytldnncamaglofaa
open Go.RowKit

theorem merge_may {a b : List Rv} (h : (mayRs a && mayRs b) = true) (hl : (mergeR a b).length ≤ 200) : mayRs (mergeR a b) = true := by
  rw [Bool.and_eq_true] at h
  exact mergeR_may h.1 h.2 hl

set_option maxRecDepth 100000 in
set_option maxHeartbeats 8000000 in
theorem merges_walk (va vb : Value) (a b : List Rv) (w : World) (hA : Rs w va a) (hB : Rs w vb b) :
    Calls Try.prog 4 #[va, vb] w fun e w' => e = .returned (.bool true) ∧ Ext w w' := by
  have HA := veil hA
  have HB := veil hB
  have KU := veil (up11_calls w)
  obtain ⟨Aa, ca, rfl, _, _⟩ := hA
  obtain ⟨Ab, cb, rfl, _, _⟩ := hB
  obtain ⟨m, hm⟩ : ∃ m, m = a.length := ⟨_, rfl⟩
  obtain ⟨n, hn⟩ : ∃ n, n = b.length := ⟨_, rfl⟩
  rw [← hm] at HA ⊢
  rw [← hn] at HB ⊢
  have HN := veil (And.intro hm hn)
  clear hm hn
  go_enter Try.func4, Try.ntmps4
  go_upto_region 2 with (go_at_call 6; refine KU.out.mono ?_; rintro e w1 ⟨rfl, hE1⟩)
  have HE1 := veil hE1
  clear hE1 KU
  by_cases g1 : (300 : Int) < (m : Int)
  · have hd : decide ((300 : Int) < (m : Int)) = true := decide_eq_true g1
    go_wp2
    go_ret
    exact ⟨rfl, HE1.out⟩
  · have hd : decide ((300 : Int) < (m : Int)) = false := decide_eq_false g1
    by_cases g2 : (300 : Int) < (n : Int)
    · have hd2 : decide ((300 : Int) < (n : Int)) = true := decide_eq_true g2
      go_wp2
      go_ret
      exact ⟨rfl, HE1.out⟩
    · have hd2 : decide ((300 : Int) < (n : Int)) = false := decide_eq_false g2
      have ha : a.length ≤ 300 := by have := HN.out; omega
      have hb : b.length ≤ 300 := by have := HN.out; omega
      have KG := veil (merge11_calls _ _ a b w1 (HA.out.ext HE1.out) (HB.out.ext HE1.out) (by omega) (by omega))
      have KA := veil (fun W (h : Ext w W) => rmay11_calls _ a W (HA.out.ext h) (by omega))
      have KB := veil (fun W (h : Ext w W) => rmay11_calls _ b W (HB.out.ext h) (by omega))
      have HL := veil (And.intro ha hb)
      clear g1 g2 ha hb
      go_upto_region 5 with (go_at_call 16; refine KG.out.mono ?_; rintro e w2 ⟨x, ev, rfl, hE2, hM⟩)
      have HE2 := veil (HE1.out.trans hE2)
      have HE12 := veil hE2
      clear hE2 KG
      go_upto_region 6 with (go_at_call 7; refine (KA.out _ HE2.out).mono ?_; clear KA; rintro e w3 ⟨rfl, hE3⟩)
      have HE3 := veil (And.intro (HE2.out.trans hE3) hE3)
      clear hE3
      go_upto_region 7 with (go_at_call 7; refine (KB.out _ HE3.out.1).mono ?_; clear KB; rintro e w4 ⟨rfl, hE4⟩)
      have HE4 := veil (And.intro (HE3.out.1.trans hE4) (HE3.out.2.trans hE4))
      clear hE4
      rcases hM with ⟨hno, rfl, rfl⟩ | ⟨hyes, hbig, rfl, rfl⟩ | ⟨hyes, hsm, rfl, hR⟩
      · have k2 := fun W => eqErr11 W
        cases hma : mayRs a with
        | false =>
          clear hno
          go_wp2
          go_ret
          exact ⟨rfl, HE4.out.1⟩
        | true =>
          rw [hma, Bool.true_and] at hno
          rw [hno]
          clear hno
          go_wp2
          go_ret
          exact ⟨rfl, HE4.out.1⟩
      · have hy := hyes
        rw [Bool.and_eq_true] at hy
        rw [hy.1, hy.2]
        have KW := veil (rmerge11_calls _ _ a b w4 (HA.out.ext HE4.out.1) (HB.out.ext HE4.out.1) (by have := HL.out; omega) (by have := HL.out; omega))
        have k2 := fun W => eqErr13 W
        have HG := veil hbig
        clear hy hyes hbig
        go_upto_region 10 with (go_at_call 17; refine KW.out.mono ?_; rintro e w5 ⟨v, rfl, hv, hE5⟩)
        obtain ⟨Av, cv, rfl, _, _⟩ := hv
        have hd9 : decide ((200 : Int) < ((mergeR a b).length : Int)) = true := by simp; have := HG.out; omega
        have HE5 := veil (HE4.out.1.trans hE5)
        generalize (mergeR a b).length = L at *
        clear hE5 KW
        go_wp2
        go_ret
        exact ⟨rfl, HE5.out⟩
      · have hy := hyes
        rw [Bool.and_eq_true] at hy
        rw [hy.1, hy.2]
        have KW := veil (rmerge11_calls _ _ a b w4 (HA.out.ext HE4.out.1) (HB.out.ext HE4.out.1) (by have := HL.out; omega) (by have := HL.out; omega))
        have HG := veil (And.intro hsm (And.intro hR hyes))
        clear hy hyes hsm hR
        go_upto_region 10 with (go_at_call 17; refine KW.out.mono ?_; rintro e w5 ⟨v, rfl, hv, hE5⟩)
        have KS := veil (rsame11_calls x v (mergeR a b) w5 (HG.out.2.1.ext (HE4.out.2.trans hE5)) hv (wfR_may (merge_may HG.out.2.2 HG.out.1)) (by have := HG.out.1; omega))
        obtain ⟨Av, cv, rfl, _, _⟩ := hv
        have hd9 : decide ((200 : Int) < ((mergeR a b).length : Int)) = false := by simp; have := HG.out.1; omega
        have HE5 := veil (HE4.out.1.trans hE5)
        generalize (mergeR a b).length = L at *
        clear hE5 KW
        go_wp2_with (go_at_call 15; refine KS.out.mono ?_; rintro e w6 ⟨rfl, hE6⟩)
        go_ret
        exact ⟨rfl, HE5.out.trans hE6⟩
end Go.Proofs.Ytldnncamaglofaa
