/-
  clapperlaw11.RevokeBoth, walked.
-/
import Derived.Test.YtldnncamaglofaaRq
namespace Go.Proofs.Ytldnncamaglofaa
open Go.RowKit

set_option maxRecDepth 100000 in
set_option maxHeartbeats 8000000 in
theorem both_walk (va vb : Value) (a b : List Rv) (s t u : Int) (w : World) (hA : Rs w va a) (hB : Rs w vb b) :
    Calls Try.prog 5 #[va, vb, .int .i64 s, .int .i64 t, .int .i64 u] w fun e w' => e = .returned (.bool true) ∧ Ext w w' := by
  have HA := veil hA
  have HB := veil hB
  have KU := veil (up11_calls w)
  obtain ⟨Aa, ca, rfl, _, _⟩ := hA
  obtain ⟨Ab, cb, rfl, _, _⟩ := hB
  obtain ⟨m, hm⟩ : ∃ m, m = a.length := ⟨_, rfl⟩
  obtain ⟨n, hn⟩ : ∃ n, n = b.length := ⟨_, rfl⟩
  rw [← hm] at HA ⊢
  rw [← hn] at HB ⊢
  have HN := veil (And.intro hm hn)
  clear hm hn
  go_enter Try.func5, Try.ntmps5
  go_upto_region 2 with (go_at_call 6; refine KU.out.mono ?_; rintro e w1 ⟨rfl, hE1⟩)
  have HE1 := veil hE1
  clear hE1 KU
  by_cases g1 : (300 : Int) < (m : Int)
  · have hd : decide ((300 : Int) < (m : Int)) = true := decide_eq_true g1
    go_wp2
    go_ret
    exact ⟨rfl, HE1.out⟩
  · have hd : decide ((300 : Int) < (m : Int)) = false := decide_eq_false g1
    by_cases g2 : (300 : Int) < (n : Int)
    · have hd2 : decide ((300 : Int) < (n : Int)) = true := decide_eq_true g2
      go_wp2
      go_ret
      exact ⟨rfl, HE1.out⟩
    · have hd2 : decide ((300 : Int) < (n : Int)) = false := decide_eq_false g2
      have ha : a.length ≤ 300 := by have := HN.out; omega
      have hb : b.length ≤ 300 := by have := HN.out; omega
      have KP := veil (bytes11_calls _ a w1 (HA.out.ext HE1.out) (by omega))
      have KG := veil (fun W (h : Ext w W) => merge11_calls _ _ a b W (HA.out.ext h) (HB.out.ext h) (by omega) (by omega))
      have KH := veil (fun W (h : Ext w W) => merge11_calls _ _ b a W (HB.out.ext h) (HA.out.ext h) (by omega) (by omega))
      have HL := veil (And.intro ha hb)
      clear g1 g2 ha hb
      go_upto_region 5 with (go_at_call 9; refine KP.out.mono ?_; rintro e w2 ⟨x, ev, rfl, hE2, hP⟩)
      have HE2 := veil (HE1.out.trans hE2)
      clear KP
      rcases hP with ⟨hma, rfl, rfl⟩ | ⟨hma, rfl, A2, c2, rfl, hc2, hB2⟩
      · have HM := veil hma
        clear hma hE2
        go_upto_region 10 with (go_at_call 16; refine (KG.out _ HE2.out).mono ?_; clear KG; rintro e w3 ⟨x3, ev3, rfl, hE3, hM3⟩)
        have HE3 := veil (HE2.out.trans hE3)
        clear hE3
        rcases hM3 with ⟨_, rfl, rfl⟩ | ⟨h, _⟩ | ⟨h, _⟩
        · go_upto_region 11 with (go_at_call 16; refine (KH.out _ HE3.out).mono ?_; clear KH; rintro e w4 ⟨x4, ev4, rfl, hE4, hM4⟩)
          have HE4 := veil (HE3.out.trans hE4)
          clear hE4
          rcases hM4 with ⟨_, rfl, rfl⟩ | ⟨h, _⟩ | ⟨h, _⟩
          · go_wp2
            go_ret
            exact ⟨rfl, HE4.out⟩
          · rw [HM.out, Bool.and_false] at h; cases h
          · rw [HM.out, Bool.and_false] at h; cases h
        · rw [HM.out, Bool.false_and] at h; cases h
        · rw [HM.out, Bool.false_and] at h; cases h
      · have HM := veil hma
        have KQ := veil (parse11_calls A2 (revB a).length c2 (revB a) rfl hc2 (by
          unfold revB
          have := encF_length_le [((1 : Int), rvsB a)] 4800 (fun f hf => by rw [List.mem_singleton.1 hf]; show (rvsB a).length ≤ 4800; rw [rvsB_length]; have := HL.out; omega)
          simp only [List.length_singleton] at this
          omega) w2 hB2)
        obtain ⟨q, hq⟩ : ∃ q, q = (revB a).length := ⟨_, rfl⟩
        rw [← hq] at KQ hc2 ⊢
        have HQ := veil (And.intro hq (revOf_revB hma))
        clear hma hE2 hq hB2
        go_upto_region 7 with (go_at_call 13; refine KQ.out.mono ?_; rintro e w3 ⟨x3, ev3, rfl, hE3, hM3⟩)
        have HE3 := veil (HE2.out.trans hE3)
        clear hE3 KQ
        rcases hM3 with ⟨h, _⟩ | ⟨l3, h, rfl, hR3⟩
        · rw [HQ.out.2] at h; cases h
        · obtain rfl : l3 = a := by rw [HQ.out.2] at h; exact (Option.some.inj h).symm
          have KS := veil (rsame11_calls x3 _ l3 w3 hR3 (HA.out.ext HE3.out) (wfR_may HM.out) (by have := HL.out; omega))
          clear h hR3
          go_upto_region 10 with (first
            | (go_at_call 15; refine KS.out.mono ?_; rintro e w4 ⟨rfl, hE4⟩; have HE4 := veil (HE3.out.trans hE4); clear hE4)
            | (go_at_call 16; refine (KG.out _ HE4.out).mono ?_; clear KG; rintro e w5 ⟨x5, ev5, rfl, hE5, hM5⟩))
          have HE5 := veil (HE4.out.trans hE5)
          clear hE5
          go_upto_region 11 with (go_at_call 16; refine (KH.out _ HE5.out).mono ?_; clear KH; rintro e w6 ⟨x6, ev6, rfl, hE6, hM6⟩)
          have HE6 := veil (HE5.out.trans hE6)
          have H56 := veil hE6
          clear hE6
          rcases hM5 with ⟨h, rfl, rfl⟩ | ⟨h, h2, rfl, rfl⟩ | ⟨h, h2, rfl, hR5⟩
          · rcases hM6 with ⟨_, rfl, rfl⟩ | ⟨h', _⟩ | ⟨h', _⟩
            · go_wp2
              go_ret
              exact ⟨rfl, HE6.out⟩
            · rw [Bool.and_comm] at h'; rw [h] at h'; cases h'
            · rw [Bool.and_comm] at h'; rw [h] at h'; cases h'
          · rcases hM6 with ⟨_, rfl, rfl⟩ | ⟨_, _, rfl, rfl⟩ | ⟨h', h2', _⟩
            · go_wp2
              go_ret
              exact ⟨rfl, HE6.out⟩
            · go_wp2
              go_ret
              exact ⟨rfl, HE6.out⟩
            · rw [Bool.and_eq_true] at h
              rw [merge_comm (mayRs_ris h.2) (mayRs_ris h.1)] at h2'
              omega
          · have hmay := merge_may h h2
            have hab := h
            rw [Bool.and_eq_true] at hab
            have hcm := merge_comm (mayRs_ris hab.1) (mayRs_ris hab.2)
            rcases hM6 with ⟨h', _⟩ | ⟨_, h2', _⟩ | ⟨_, _, rfl, hR6⟩
            · rw [Bool.and_comm] at h'; rw [h] at h'; cases h'
            · rw [← hcm] at h2'; omega
            · rw [← hcm] at hR6
              have him := is_merge hab.1 hab.2 s t
              have hil := fun hu hx => is_later (l := mergeR l3 b) (s := s) (t := t) (u := u) hx hu
              have hlen : (mergeR l3 b).length ≤ 1000000000 := by omega
              have KL := veil (fun z W (h : Ext w5 W) => is11_calls x5 (mergeR l3 b) s z W (hR5.ext h) hlen)
              have KA := veil (fun W (h : Ext w W) => is11_calls _ l3 s t W (HA.out.ext h) (by have := HL.out; omega))
              have KB := veil (fun W (h : Ext w W) => is11_calls _ b s t W (HB.out.ext h) (by have := HL.out; omega))
              have KS2 := veil (fun W (h : Ext w6 W) => rsame11_calls x5 x6 (mergeR l3 b) W (hR5.ext (H56.out.trans h)) (hR6.ext h) (wfR_may hmay) hlen)
              have KL1 := veil (fun W h => KL.out t W h)
              have KL2 := veil (fun W h => KL.out u W h)
              rw [hmay, Bool.true_and] at KL1 KL2
              rw [hab.1, Bool.true_and] at KA
              rw [hab.2, Bool.true_and] at KB
              rw [him] at KL1 hil
              have HI := veil hil
              clear h h2 hmay hab hcm him hil hlen KL hR5 hR6 KS
              generalize isR (mergeR l3 b) s u = Ru at *
              generalize isR l3 s t = Ra at *
              generalize isR b s t = Rb at *
              cases Ra with
              | true =>
                cases Rb with
                | true =>
                  rw [show (true || true) = true from rfl] at KL1
                  go_upto_region 16 with (first
                    | (go_at_call 11; refine (KL1.out _ H56.out).mono ?_; clear KL1; rintro e w7 ⟨rfl, hE7⟩; have H7 := veil (And.intro (HE6.out.trans hE7) (And.intro hE7 (H56.out.trans hE7))); clear hE7)
                    | (go_at_call 15; refine (KS2.out _ H7.out.2.1).mono ?_; rintro e w8 ⟨rfl, hE8⟩; have H8 := veil (And.intro (H7.out.1.trans hE8) (H7.out.2.2.trans hE8)); clear hE8)
                    | (go_at_call 11; refine (KA.out _ H8.out.1).mono ?_; clear KA; rintro e w9 ⟨rfl, hE9⟩; have H9 := veil (And.intro (H8.out.1.trans hE9) (H8.out.2.trans hE9)); clear hE9))
                  by_cases hut : u < t
                  · have hd3 : decide (u < t) = true := decide_eq_true hut
                    clear hut
                    go_wp2
                    go_ret
                    exact ⟨rfl, H9.out.1⟩
                  · have hd3 : decide (u < t) = false := decide_eq_false hut
                    obtain rfl : Ru = true := HI.out (by omega) rfl
                    clear hut
                    go_wp2_with (go_at_call 11; refine (KL2.out _ H9.out.2).mono ?_; rintro e w11 ⟨rfl, hE11⟩)
                    go_ret
                    exact ⟨rfl, H9.out.1.trans hE11⟩
                | false =>
                  rw [show (true || false) = true from rfl] at KL1
                  go_upto_region 16 with (first
                    | (go_at_call 11; refine (KL1.out _ H56.out).mono ?_; clear KL1; rintro e w7 ⟨rfl, hE7⟩; have H7 := veil (And.intro (HE6.out.trans hE7) (And.intro hE7 (H56.out.trans hE7))); clear hE7)
                    | (go_at_call 15; refine (KS2.out _ H7.out.2.1).mono ?_; rintro e w8 ⟨rfl, hE8⟩; have H8 := veil (And.intro (H7.out.1.trans hE8) (H7.out.2.2.trans hE8)); clear hE8)
                    | (go_at_call 11; refine (KA.out _ H8.out.1).mono ?_; clear KA; rintro e w9 ⟨rfl, hE9⟩; have H9 := veil (And.intro (H8.out.1.trans hE9) (H8.out.2.trans hE9)); clear hE9))
                  by_cases hut : u < t
                  · have hd3 : decide (u < t) = true := decide_eq_true hut
                    clear hut
                    go_wp2
                    go_ret
                    exact ⟨rfl, H9.out.1⟩
                  · have hd3 : decide (u < t) = false := decide_eq_false hut
                    obtain rfl : Ru = true := HI.out (by omega) rfl
                    clear hut
                    go_wp2_with (go_at_call 11; refine (KL2.out _ H9.out.2).mono ?_; rintro e w11 ⟨rfl, hE11⟩)
                    go_ret
                    exact ⟨rfl, H9.out.1.trans hE11⟩
              | false =>
                cases Rb with
                | true =>
                  rw [show (false || true) = true from rfl] at KL1
                  go_upto_region 16 with (first
                    | (go_at_call 11; refine (KL1.out _ H56.out).mono ?_; clear KL1; rintro e w7 ⟨rfl, hE7⟩; have H7 := veil (And.intro (HE6.out.trans hE7) (And.intro hE7 (H56.out.trans hE7))); clear hE7)
                    | (go_at_call 15; refine (KS2.out _ H7.out.2.1).mono ?_; rintro e w8 ⟨rfl, hE8⟩; have H8 := veil (And.intro (H7.out.1.trans hE8) (H7.out.2.2.trans hE8)); clear hE8)
                    | (go_at_call 11; refine (KA.out _ H8.out.1).mono ?_; clear KA; rintro e w9 ⟨rfl, hE9⟩; have H9 := veil (And.intro (H8.out.1.trans hE9) (H8.out.2.trans hE9)); clear hE9)
                    | (go_at_call 11; refine (KB.out _ H9.out.1).mono ?_; clear KB; rintro e w10 ⟨rfl, hE10⟩; have H10 := veil (And.intro (H9.out.1.trans hE10) (H9.out.2.trans hE10)); clear hE10))
                  by_cases hut : u < t
                  · have hd3 : decide (u < t) = true := decide_eq_true hut
                    clear hut
                    go_wp2
                    go_ret
                    exact ⟨rfl, H10.out.1⟩
                  · have hd3 : decide (u < t) = false := decide_eq_false hut
                    obtain rfl : Ru = true := HI.out (by omega) rfl
                    clear hut
                    go_wp2_with (go_at_call 11; refine (KL2.out _ H10.out.2).mono ?_; rintro e w11 ⟨rfl, hE11⟩)
                    go_ret
                    exact ⟨rfl, H10.out.1.trans hE11⟩
                | false =>
                  rw [show (false || false) = false from rfl] at KL1
                  go_upto_region 16 with (first
                    | (go_at_call 11; refine (KL1.out _ H56.out).mono ?_; clear KL1; rintro e w7 ⟨rfl, hE7⟩; have H7 := veil (And.intro (HE6.out.trans hE7) (And.intro hE7 (H56.out.trans hE7))); clear hE7)
                    | (go_at_call 15; refine (KS2.out _ H7.out.2.1).mono ?_; rintro e w8 ⟨rfl, hE8⟩; have H8 := veil (And.intro (H7.out.1.trans hE8) (H7.out.2.2.trans hE8)); clear hE8)
                    | (go_at_call 11; refine (KA.out _ H8.out.1).mono ?_; clear KA; rintro e w9 ⟨rfl, hE9⟩; have H9 := veil (And.intro (H8.out.1.trans hE9) (H8.out.2.trans hE9)); clear hE9)
                    | (go_at_call 11; refine (KB.out _ H9.out.1).mono ?_; clear KB; rintro e w10 ⟨rfl, hE10⟩; have H10 := veil (And.intro (H9.out.1.trans hE10) (H9.out.2.trans hE10)); clear hE10))
                  go_wp2
                  go_ret
                  exact ⟨rfl, H10.out.1⟩
end Go.Proofs.Ytldnncamaglofaa
