/-
  clapperlaw08.TlvBack, walked under what it asks of the code.
-/
import Derived.Test.YtiopilhpeohaoaaTC
namespace Go.Proofs.Ytiopilhpeohaoaa
open Go.RowKit

set_option maxRecDepth 100000 in
set_option maxHeartbeats 8000000 in
theorem back_walk (C : Code8) (l : Value) (fs : List Fd) (A : Option Addr) (m c : Nat) (bs : List Nat) (n : Int) (hn1 : -9223372036854775808 ≤ n) (hn2 : n ≤ 9223372036854775807) (w : World) (hF : Fl w l fs) (hm : m = bs.length) (hmc : m ≤ c) (hS : Bs w A bs) :
    Calls Try.prog 5 #[l, .slice A m c, .int .i64 n] w fun e w' => e = .returned (.bool true) ∧ Ext w w' := by
  have HC := veil C
  have HF := veil hF
  have HS := veil (And.intro hm (And.intro hmc hS))
  have KU := veil (up8_calls C w)
  have KN := veil (fun W => C.number n W hn1 hn2)
  have HB := veil (And.intro hn1 hn2)
  obtain ⟨hB, AL, cl, rfl, hcl, hx⟩ := hF
  obtain ⟨q, hn⟩ : ∃ q, q = fs.length := ⟨_, rfl⟩
  rw [← hn] at HF hcl ⊢
  have HN := veil hn
  clear hB hx hn C hm hmc hS hcl hn1 hn2
  go_enter Try.func5, Try.ntmps5
  go_upto_region 2 with (go_at_call 7; refine KU.out.mono ?_; rintro e w1 ⟨rfl, hE1⟩)
  have HE1 := veil hE1
  clear hE1 KU
  by_cases g1 : (300 : Int) < (q : Int)
  · have hd : decide ((300 : Int) < (q : Int)) = true := decide_eq_true g1
    go_wp2
    go_ret
    exact ⟨rfl, HE1.out⟩
  · have hd : decide ((300 : Int) < (q : Int)) = false := decide_eq_false g1
    by_cases g2 : (70000 : Int) < (m : Int)
    · have hd2 : decide ((70000 : Int) < (m : Int)) = true := decide_eq_true g2
      go_wp2
      go_ret
      exact ⟨rfl, HE1.out⟩
    · have hd2 : decide ((70000 : Int) < (m : Int)) = false := decide_eq_false g2
      have hfl : fs.length ≤ 1000000000 := by have := HN.out; omega
      have hmle : m ≤ 100000000 := by omega
      have hmle2 : m ≤ 1000000000 := by omega
      have hb1 := veil (HS.out.2.2.ext (HE1.out.trans (Ext.alloc w1 (.cells #[] 5))))
      go_upto_region 5 with ((with_reducible refine at_slot 31 ?_); refine wpl_append0 rfl rfl rfl rfl (heap_new _ _) hb1.out HS.out.1 hmle2 ?_; intro A' c' w2 hE2 hc' hB2 hF2; clear hF2)
      have HE2 := veil (HE1.out.trans ((Ext.alloc w1 (.cells #[] 5)).trans hE2))
      have HO := veil (And.intro hc' hB2)
      have KP := veil (HC.out.put _ fs w2 (HF.out.ext HE2.out) hfl)
      clear hE2 hc' hB2 hb1 HE1 g1 g2 hd hd2 hmle2
      go_upto_region 6 with (go_at_call 8; refine KP.out.mono ?_; rintro e w3 ⟨x, ev, rfl, hE3, hA⟩)
      have HE3 := veil (And.intro (HE2.out.trans hE3) hE3)
      rcases hA with ⟨hmay, ⟨A2, c2, rfl⟩, rfl⟩ | ⟨hmay, rfl, A2, c2, rfl, hc2, hB2⟩
      clear hE3 KP hmay
      go_upto_region 10 with (fail)
      obtain ⟨w6, hw6⟩ : ∃ w6, w6 = w3 := ⟨_, rfl⟩
      have HE6 := veil (show Ext w w6 ∧ Ext w2 w6 from by rw [hw6]; exact HE3.out)
      rw [← hw6]
      clear hw6 HE3
      rotate_left
      have hgl : fs.length ≤ 1000000000 := hfl
      have hLe : (encF fs).length ≤ 100000000 := by
        have := encF_take_le hmay fs.length
        rw [List.take_length] at this
        omega
      have KG := veil (HC.out.get A2 (encF fs).length c2 (encF fs) w3 rfl hc2 hLe hB2)
      have HM := veil hmay
      obtain ⟨L, hL⟩ : ∃ L, L = (encF fs).length := ⟨_, rfl⟩
      rw [← hL] at KG ⊢
      clear hE3 KP hmay hL hc2 hB2 hLe
      go_upto_region 8 with (go_at_call 12; refine KG.out.mono ?_; rintro e w4 ⟨y, ev, rfl, hE4, hA⟩)
      rcases hA with ⟨h, _⟩ | ⟨gs, hgs, rfl, hG⟩
      · rw [get_enc HM.out] at h
        cases h
      obtain rfl : fs = gs := by rw [get_enc HM.out] at hgs; exact Option.some.inj hgs
      have KS := veil (same8_calls _ _ fs fs w4 hG (HF.out.ext (HE3.out.1.trans hE4)) hfl)
      rw [decide_eq_true rfl] at KS
      have HE4 := veil (And.intro (HE3.out.1.trans hE4) (HE3.out.2.trans hE4))
      clear hgs hG hE4 KG HE3 hgl
      go_upto_region 10 with (go_at_call 14; refine KS.out.mono ?_; rintro e w6 ⟨rfl, hE5⟩)
      have HE6 := veil (And.intro (HE4.out.1.trans hE5) (HE4.out.2.trans hE5))
      clear hE5 KS HE4
      all_goals
        have HO6 := veil (HO.out.2.ext HE6.out.2)
        have KG := veil (HC.out.get A' m c' bs w6 HS.out.1 HO.out.1 hmle HO6.out)
        go_upto_region 11 with (go_at_call 12; refine KG.out.mono ?_; rintro e w7 ⟨y, ev, rfl, hE7, hA⟩)
        have HE7 := veil (HE6.out.1.trans hE7)
        have k1 : (convert 23 9 (.slice A' m c')).run Try.prog w7 = .ok (.string (strL bs)) w7 := str_of (HO6.out.ext hE7) HS.out.1
        have k2 : (convert 23 9 (.slice A m c)).run Try.prog w7 = .ok (.string (strL bs)) w7 := str_of (HS.out.2.2.ext HE7.out) HS.out.1
        clear KG HO6 hE7
        go_upto_region 13 with (fail)
        clear k1 k2
        rcases hA with ⟨hn, ⟨A3, c3, rfl⟩, rfl⟩ | ⟨gs, hs, rfl, hG⟩
        go_upto_region 17 with (fail)
        obtain ⟨w8, hw8⟩ : ∃ w8, w8 = w7 := ⟨_, rfl⟩
        have HE8 := veil (show Ext w w8 from by rw [hw8]; exact HE7.out)
        rw [← hw8]
        clear hw8 HE7
        rotate_left
        have hgl : gs.length ≤ 1000000000 := by
          have := mayFs_64 (get_some hs).2
          omega
        have HG := veil (And.intro (get_some hs).2 (enc_get HS.out.2.2.1 hs))
        have KP := veil (HC.out.put _ gs w7 hG hgl)
        clear hs hG
        go_upto_region 15 with (go_at_call 8; refine KP.out.mono ?_; rintro e w8 ⟨x, ev, rfl, hE8, hA⟩)
        rcases hA with ⟨h, _⟩ | ⟨_, rfl, A4, c4, rfl, _, hB4⟩
        · rw [HG.out.1] at h
          cases h
        have HE8 := veil (HE7.out.trans hE8)
        rw [HG.out.2] at hB4 ⊢
        rw [← HS.out.1]
        have k1 : (convert 23 9 (.slice A4 m c4)).run Try.prog w8 = .ok (.string (strL bs)) w8 := str_of hB4 HS.out.1
        have k2 : (convert 23 9 (.slice A m c)).run Try.prog w8 = .ok (.string (strL bs)) w8 := str_of (HS.out.2.2.ext HE8.out) HS.out.1
        clear KP hB4 hE8 HE7 hgl
        go_upto_region 17 with (fail)
        clear k1 k2
        all_goals
          go_upto_region 18 with (first
            | (go_at_call 17; refine (KN.out _).mono ?_; rintro e w9 ⟨A5, c5, rfl, hc5, hB5, hE9⟩)
            | (go_at_call 15; refine (HC.out.of A5 8 c5 (numB n) _ (numB_length n).symm hc5 hB5).mono ?_; rintro e w10 ⟨x5, ev5, rfl, hE10, hA⟩))
          have HE10 := veil ((HE8.out.trans hE9).trans hE10)
          have hof := ofB_num HB.out.1 HB.out.2
          clear hE9 hE10 hB5 hc5
          rcases hA with ⟨h, rfl, rfl⟩ | ⟨h, rfl, rfl⟩
          · have h0 : n < 0 := by
              rw [hof] at h
              split at h <;> omega
            have hd1 : decide (n < 0) = true := decide_eq_true h0
            have hd2 : decide (0 ≤ n) = false := decide_eq_false (by omega)
            have k3 := fun W => eqErr2 W
            clear h hof
            go_wp2
            go_ret
            exact ⟨rfl, HE10.out⟩
          · have h0 : 0 ≤ n := by
              rw [hof] at h
              split at h <;> omega
            have hd1 : decide (n < 0) = false := decide_eq_false (by omega)
            have hd2 : decide (0 ≤ n) = true := decide_eq_true h0
            rw [hof, if_pos h0]
            clear h hof
            go_wp2
            go_ret
            exact ⟨rfl, HE10.out⟩
end Go.Proofs.Ytiopilhpeohaoaa
