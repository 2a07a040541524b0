/-
  clapperlaw08.TlvCut, walked under what it asks of the code.
-/
import Derived.Test.YtiopilhpeohaoaaTD
namespace Go.Proofs.Ytiopilhpeohaoaa
open Go.RowKit

theorem fs_last {fs : List Fd} {k : Nat} (h : fs.length = k + 1) : ∃ f, fs = fs.take k ++ [f] := by
  have hk : k < fs.length := by omega
  refine ⟨fs[k], ?_⟩
  have := List.take_add_one (l := fs) (i := k)
  rw [List.getElem?_eq_getElem hk, List.take_of_length_le (by omega)] at this
  exact this

set_option maxRecDepth 100000 in
set_option maxHeartbeats 8000000 in
theorem cut_walk (C : Code8) (l : Value) (fs : List Fd) (a : Int) (w : World) (hF : Fl w l fs) :
    Calls Try.prog 6 #[l, .int .i64 a] w fun e w' => e = .returned (.bool true) ∧ Ext w w' := by
  have HC := veil C
  have HF := veil hF
  have KU := veil (up8_calls C w)
  obtain ⟨hB, AL, cl, rfl, hcl, hx⟩ := hF
  obtain ⟨q, hn⟩ : ∃ q, q = fs.length := ⟨_, rfl⟩
  rw [← hn] at HF hcl ⊢
  have HN := veil (And.intro hn hcl)
  clear hB hx hn C hcl
  go_enter Try.func6, Try.ntmps6
  go_upto_region 2 with (go_at_call 7; refine KU.out.mono ?_; rintro e w1 ⟨rfl, hE1⟩)
  have HE1 := veil hE1
  clear hE1 KU
  by_cases g1 : q = 0
  · have hd : decide ((q : Int) = 0) = true := by simp; omega
    subst g1
    go_wp2
    go_ret
    exact ⟨rfl, HE1.out⟩
  · have hd : decide ((q : Int) = 0) = false := by simp; omega
    have hd' : ((q : Int) == 0) = false := by simp; omega
    by_cases g2 : (300 : Int) < (q : Int)
    · have hd2 : decide ((300 : Int) < (q : Int)) = true := decide_eq_true g2
      go_wp2
      go_ret
      exact ⟨rfl, HE1.out⟩
    · have hd2 : decide ((300 : Int) < (q : Int)) = false := decide_eq_false g2
      have hfl : fs.length ≤ 1000000000 := by have := HN.out.1; omega
      have KP := veil (HC.out.put _ fs w1 (HF.out.ext HE1.out) hfl)
      go_upto_region 5 with (go_at_call 8; refine KP.out.mono ?_; rintro e w2 ⟨x, ev, rfl, hE2, hA⟩)
      obtain ⟨k, hk⟩ : ∃ k, q = k + 1 := Nat.exists_eq_succ_of_ne_zero g1
      have HE2 := veil (And.intro (HE1.out.trans hE2) hE2)
      have KP2 := veil (HC.out.put _ (fs.take k) w2 ((HF.out.ext HE2.out.1).take (show k ≤ q by omega)) (by rw [List.length_take]; omega))
      have hkb : (k : Int) ≤ 300 := by omega
      clear hE2 KP HE1 g2 hd hd2 hd' g1
      have hk2 : (q : Int) - 1 = (k : Int) := by omega
      have HK := veil hk
      have hkc : k ≤ cl := by have := HN.out.2; omega
      clear hk
      go_upto_region 6 with (first
        | ((with_reducible refine at_slot 32 ?_); refine wpl_val (.slice AL k cl) rfl (run_slice_hv rfl rfl rfl (cut_to_fd AL _ cl k hkc _ rfl)) ?_)
        | (go_at_call 8; refine KP2.out.mono ?_; rintro e w3 ⟨y, ev2, rfl, hE3, hA2⟩))
      have HE3 := veil (HE2.out.1.trans hE3)
      rcases hA with ⟨hmay, ⟨A2, c2, rfl⟩, rfl⟩ | ⟨hmay, rfl, A2, c2, rfl, hc2, hB2⟩
      · clear hA2 hE3 KP2 hk2
        go_wp2
        go_ret
        exact ⟨rfl, HE3.out⟩
      · rcases hA2 with ⟨hmay2, ⟨A3, c3, rfl⟩, rfl⟩ | ⟨hmay2, rfl, A3, c3, rfl, hc3, hB3⟩
        · clear hE3 KP2 hk2
          go_wp2
          go_ret
          exact ⟨rfl, HE3.out⟩
        · obtain ⟨f, hf⟩ := fs_last (fs := fs) (k := k) (by have := HN.out.1; have := HK.out; omega)
          have hlen : (encF (fs.take k)).length + 3 ≤ (encF fs).length := by
            have e : encF fs = encF (fs.take k) ++ enc1 f := by
              have h1 : encF fs = encF (fs.take k ++ [f]) := congrArg encF hf
              rw [h1, encF_append]
              congr 1
              exact List.append_nil _
            rw [e, List.length_append, enc1_length]
            omega
          have hLe : (encF fs).length ≤ 100000000 := by
            have := encF_take_le hmay fs.length
            rw [List.take_length] at this
            omega
          have HB2 := veil (hB2.ext hE3)
          have HC2 := veil (And.intro hmay (And.intro hf hc2))
          clear hB2 hB3 hE3 KP2 hk2 hc3 hmay2 hmay hf hc2
          obtain ⟨L, hL⟩ : ∃ L, L = (encF fs).length := ⟨_, rfl⟩
          obtain ⟨M, hM⟩ : ∃ M, M = (encF (fs.take k)).length := ⟨_, rfl⟩
          rw [← hL, ← hM] at hlen
          rw [← hL] at hLe
          rw [← hL, ← hM]
          have HLM := veil (And.intro hL hM)
          clear hL hM
          by_cases g3 : a ≤ (M : Int)
          · have hd : decide (a ≤ (M : Int)) = true := decide_eq_true g3
            have hd2 : decide ((M : Int) < (L : Int)) = true := by simp; omega
            have hd3 : decide (M < L) = true := by simp; omega
            go_wp2
            go_ret
            exact ⟨rfl, HE3.out⟩
          · have hd : decide (a ≤ (M : Int)) = false := decide_eq_false g3
            by_cases g4 : (L : Int) ≤ a
            · have hd1 : decide ((L : Int) ≤ a) = true := decide_eq_true g4
              have hd2 : decide ((M : Int) < (L : Int)) = true := by simp; omega
              have hd3 : decide (M < L) = true := by simp; omega
              go_wp2
              go_ret
              exact ⟨rfl, HE3.out⟩
            · have hd1 : decide ((L : Int) ≤ a) = false := decide_eq_false g4
              go_upto_region 10 with (fail)
              obtain ⟨t, rfl⟩ : ∃ t : Nat, a = (t : Int) := ⟨a.toNat, by omega⟩
              have ht1 : M < t := by omega
              have ht2 : t < L := by omega
              have htc : t ≤ c2 := by have := HC2.out.2.2; have := HLM.out.1; omega
              have hle : t ≤ 100000000 := by omega
              have htl : t = ((encF fs).take t).length := by rw [List.length_take]; have := HLM.out.1; omega
              have KG := veil (HC.out.get A2 t c2 _ w3 htl htc hle (bs_take HB2.out t))
              have hnone := get_cut HC2.out.1 HC2.out.2.1 (at_ := t) (by have := HLM.out.2; omega) (by have := HLM.out.1; omega)
              have HT := veil hnone
              clear htl hnone ht1 ht2 hle g3 g4 hlen hLe
              go_upto_region 11 with (first
                | ((with_reducible refine at_slot 64 ?_); refine wpl_val (.slice A2 t c2) rfl (run_slice_hv rfl rfl rfl (cut_to_b A2 _ c2 t htc _ rfl)) ?_)
                | (go_at_call 12; refine KG.out.mono ?_; rintro e w4 ⟨z, ev3, rfl, hE4, hA⟩))
              rcases hA with ⟨_, ⟨A4, c4, rfl⟩, rfl⟩ | ⟨gs, hgs, _⟩
              · have k3 := fun W => eqErr2 W
                have hE5 := HE3.out.trans hE4
                clear KG hE4
                go_wp2
                go_ret
                exact ⟨rfl, hE5⟩
              · rw [HT.out] at hgs
                cases hgs
end Go.Proofs.Ytiopilhpeohaoaa
