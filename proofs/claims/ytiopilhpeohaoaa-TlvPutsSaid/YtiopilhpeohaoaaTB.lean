/-
  clapperlaw08.TlvPuts, walked under what it asks of the code.
-/
import Derived.Test.YtiopilhpeohaoaaTA
namespace Go.Proofs.Ytiopilhpeohaoaa
open Go.RowKit

/-- A callee's contract, in the class of worlds. -/
theorem Up.call {P : Program} {w : World} {D : World → Prop} (h : Up w D) {f : FuncId} {args : Array Value} {v : Value} (k : ∀ W, Ext w W → Calls P f args W fun _e w' => _e = .returned v ∧ Ext W w') (x : Gw D) :
    Calls P f args x.val fun _e w' => _e = .returned v ∧ ∃ y : Gw D, w' = y.val :=
  (k _ (h.grown _ x.property)).mono fun _ w' ⟨he, hE⟩ => ⟨he, ⟨w', h.up _ _ x.property hE⟩, rfl⟩

set_option maxRecDepth 100000 in
set_option maxHeartbeats 8000000 in
theorem puts_walk (C : Code8) (l : Value) (fs : List Fd) (A : Option Addr) (m c : Nat) (bs : List Nat) (w : World) (hF : Fl w l fs) (hm : m = bs.length) (hmc : m ≤ c) (hS : Bs w A bs) :
    Calls Try.prog 3 #[l, .slice A m c] w fun e w' => e = .returned (.bool true) ∧ Ext w w' := by
  have HC := veil C
  have HF := veil hF
  have HS := veil (And.intro hm (And.intro hmc hS))
  have KU := veil (up8_calls C w)
  obtain ⟨hB, AL, cl, rfl, hcl, hx⟩ := hF
  obtain ⟨n, hn⟩ : ∃ n, n = fs.length := ⟨_, rfl⟩
  rw [← hn] at HF hcl ⊢
  have HN := veil hn
  clear hB hx hn C hm hmc hS hcl
  go_enter Try.func3, Try.ntmps3
  go_upto_region 2 with (go_at_call 7; refine KU.out.mono ?_; rintro e w1 ⟨rfl, hE1⟩)
  have HE1 := veil hE1
  clear hE1 KU
  by_cases g1 : (300 : Int) < (n : Int)
  · have hd : decide ((300 : Int) < (n : Int)) = true := decide_eq_true g1
    go_wp2
    go_ret
    exact ⟨rfl, HE1.out⟩
  · have hd : decide ((300 : Int) < (n : Int)) = false := decide_eq_false g1
    by_cases g2 : (70000 : Int) < (m : Int)
    · have hd2 : decide ((70000 : Int) < (m : Int)) = true := decide_eq_true g2
      go_wp2
      go_ret
      exact ⟨rfl, HE1.out⟩
    · have hd2 : decide ((70000 : Int) < (m : Int)) = false := decide_eq_false g2
      have hfl : fs.length ≤ 1000000000 := by have := HN.out; omega
      have hmle : m ≤ 100000000 := by omega
      have KP := veil (HC.out.put _ fs w1 (HF.out.ext HE1.out) hfl)
      go_upto_region 5 with (go_at_call 8; refine KP.out.mono ?_; rintro e w2 ⟨x, ev, rfl, hE2, hA⟩)
      have HE2 := veil (HE1.out.trans hE2)
      have KM := veil (rmay8_calls _ fs w2 (HF.out.ext HE2.out) hfl)
      clear hE2 KP HE1 g1 g2 hd hd2
      go_upto_region 6 with (go_at_call 9; refine KM.out.mono ?_; rintro e w3 ⟨rfl, hE3⟩)
      have HE3 := veil (HE2.out.trans hE3)
      have hsz : mayFs fs = true → ((strL (encF fs)).size : Int) ≤ 4194432 := fun h => by
        have := encF_take_le h fs.length
        rw [List.take_length] at this
        rw [strL_size]
        omega
      rcases hA with ⟨hmay, ⟨A2, c2, rfl⟩, rfl⟩ | ⟨hmay, rfl, A2, c2, rfl, hc2, hB2⟩
      rw [hmay]
      have HM := veil hmay
      clear hmay hE3 KM hsz
      refine wp_sched 32 [(true, List.range 32)] (by kernel_rfl) (by kernel_rfl) fun Q' hQ' => ?_
      refine' sched_row (A := _) _ rfl (by kernel_rfl) ?h1 ?h2
      case h1 =>
        intro D hD hN
        have k1 : ∀ x : Gw D, (binOp .neq 26 (.iface 31 (.int .i64 1)) (.iface 31 (.int .i64 1))).run Try.prog x.val = .ok (.bool false) x.val := fun x => neErr1 _
        have KC := veil (fun x : Gw D => hD.call (v := .bool false) (fun W hW => by have := HC.out.may _ fs W (HF.out.ext (HE3.out.trans hW)) hfl; rwa [HM.out] at this) x)
        simp only [List.range, List.range.loop, pickI, consO, List.getElem?_cons_zero, List.getElem?_cons_succ]
        repeat (go_big_quiet_step (exact KC.out _))
        exact wpq_end
      refine sched_end hQ' fun W4 hE4 => ?_
      have HE4 := veil (HE3.out.trans hE4)
      clear hQ' hE4 HM
      rotate_left
      rw [hmay]
      have HM := veil hmay
      have hB3 := hB2.ext hE3
      have hsz2 := hsz hmay
      clear hmay hE3 KM hsz hB2
      obtain ⟨L, hL⟩ : ∃ L, L = (encF fs).length := ⟨_, rfl⟩
      rw [← hL] at hc2 ⊢
      have HL := veil (And.intro hL hB3)
      clear hL hB3
      refine wp_sched 32 [(true, List.range 32)] (by kernel_rfl) (by kernel_rfl) fun Q' hQ' => ?_
      refine' sched_row (A := _) _ rfl (by kernel_rfl) ?j1 ?j2
      case j1 =>
        intro D hD hN
        have k1 : ∀ x : Gw D, (convert 23 9 (.slice A2 L c2)).run Try.prog x.val = .ok (.string (strL (encF fs))) x.val := fun x => str_of (HL.out.2.ext (hD.grown _ x.property)) HL.out.1
        have KC := veil (fun x : Gw D => hD.call (v := .bool true) (fun W hW => by have := HC.out.may _ fs W (HF.out.ext (HE3.out.trans hW)) hfl; rwa [HM.out] at this) x)
        have KR := veil (fun x : Gw D => hD.call (v := .string (strL (encF fs))) (fun W hW => rput8_calls _ fs W (HF.out.ext (HE3.out.trans hW)) HM.out) x)
        simp only [List.range, List.range.loop, pickI, consO, List.getElem?_cons_zero, List.getElem?_cons_succ]
        repeat (go_big_quiet_step (first | exact KC.out _ | exact KR.out _))
        exact wpq_end
      refine sched_end hQ' fun W4 hE4 => ?_
      have HE4 := veil (HE3.out.trans hE4)
      clear hQ' hE4 HM HL hsz2 hc2
      all_goals
        have KG := veil (HC.out.get A m c bs W4 HS.out.1 HS.out.2.1 hmle (HS.out.2.2.ext HE4.out))
        go_upto_region 9 with (go_at_call 12; refine KG.out.mono ?_; rintro e w5 ⟨x, ev, rfl, hE5, hA⟩)
        have HE5 := veil (HE4.out.trans hE5)
        have KH := veil (rget8_any A m c bs HS.out.1 HS.out.2.1 hmle w5 (HS.out.2.2.ext HE5.out))
        clear KG hE5
        go_upto_region 10 with (go_at_call 13; refine KH.out.mono ?_; rintro e w6 ⟨y, z, rfl, hE6, hR⟩)
        have HE6 := veil (HE5.out.trans hE6)
        rcases hR with ⟨hn, rfl, rfl⟩ | ⟨gs, hs, hG, rfl⟩
        · rcases hA with ⟨_, ⟨A3, c3, rfl⟩, rfl⟩ | ⟨gs, hs, _⟩
          · have k2 := fun W => eqErr2 W
            clear KH hE6
            go_wp2
            go_ret
            exact ⟨rfl, HE6.out⟩
          · rw [hn] at hs
            cases hs
        · rcases hA with ⟨hn, _⟩ | ⟨gs', hs', rfl, hG'⟩
          · rw [hn] at hs
            cases hs
          · obtain rfl : gs' = gs := by rw [hs] at hs'; exact (Option.some.inj hs').symm
            have hgl : gs'.length ≤ 1000000000 := by
              have := mayFs_64 (get_some hs).2
              omega
            have KS := veil (same8_calls _ _ gs' gs' w6 (hG'.ext hE6) hG hgl)
            rw [decide_eq_true rfl] at KS
            clear KH hE6 hs hs' hG hG'
            go_wp2_with (go_at_call 14; refine KS.out.mono ?_; rintro e w7 ⟨rfl, hE7⟩)
            go_ret
            exact ⟨rfl, HE6.out.trans hE7⟩
end Go.Proofs.Ytiopilhpeohaoaa
