/-
  clapperlaw11: the document's example; RevokeTells walked.
-/
import Derived.Test.YtldnncamaglofaaRd
import Derived.Test.YtldnncamaglofaaRj
namespace Go.Proofs.Ytldnncamaglofaa
open Go.RowKit

theorem revOf_may {bs : List Nat} {l : List Rv} (h : revOf bs = some l) : mayRs l = true := by
  unfold revOf at h
  cases hg : getFs bs with
  | none => rw [hg] at h; cases h
  | some fs =>
    rw [hg, Option.bind_some] at h
    split at h
    · rename_i c
      rw [← Option.some.inj h]
      exact c.2.2.2
    · cases h
theorem eqErr11 (w : World) : (binOp .eql 28 (.iface 32 (.int .i64 1)) (.iface 32 (.int .i64 1))).run Try.prog w = .ok (.bool true) w := by kernel_rfl
theorem eqErr13 (w : World) : (binOp .eql 28 (.iface 32 (.int .i64 3)) (.iface 32 (.int .i64 3))).run Try.prog w = .ok (.bool true) w := by kernel_rfl
theorem rv_own {w : World} {g : Nat} {x : Rv} (hg : w.heap[g]? = some (.cells (rvC x).toArray 43 (0, 0))) : Rs w (.slice (some ⟨g, 0, none⟩) 1 1) [x] := ls_one hg

set_option maxRecDepth 100000 in
set_option maxHeartbeats 4000000 in
theorem up11_calls (w : World) : Calls Try.prog 6 #[] w fun e w' => e = .returned (.bool true) ∧ Ext w w' := by
  have hE := Ext.alloc w (.cells #[.int .i64 7, .int .i64 10] 43)
  have hR : Rs (w.alloc (.cells #[.int .i64 7, .int .i64 10] 43)) (.slice (some ⟨w.heap.size, 0, none⟩) 1 1) [((7, 10) : Rv)] := rv_own (heap_new w _)
  have hm : mayRs [((7, 10) : Rv)] = true := by decide
  have KM := veil (fun W (h : Ext (w.alloc (.cells #[.int .i64 7, .int .i64 10] 43)) W) => may11_calls _ _ W (hR.ext h) (by decide))
  have KI := veil (fun t W (h : Ext (w.alloc (.cells #[.int .i64 7, .int .i64 10] 43)) W) => is11_calls _ _ 7 t W (hR.ext h) (by decide))
  rw [hm] at KM
  have KI1 := veil (fun W h => KI.out 9 W h)
  have KI2 := veil (fun W h => KI.out 10 W h)
  rw [show (mayRs [((7, 10) : Rv)] && isR [((7, 10) : Rv)] 7 9) = false by decide] at KI1
  rw [show (mayRs [((7, 10) : Rv)] && isR [((7, 10) : Rv)] 7 10) = true by decide] at KI2
  have HE := veil hE
  clear hE hR hm KI
  go_enter Try.func6, Try.ntmps6
  go_wp2_with (first
    | (go_at_call 10; refine (KM.out _ (Ext.refl _)).mono ?_; clear KM; rintro e w1 ⟨rfl, hE1⟩; have HE1 := veil hE1; clear hE1)
    | (go_at_call 11; refine (KI1.out _ HE1.out).mono ?_; clear KI1; rintro e w2 ⟨rfl, hE2⟩; have HE2 := veil (HE1.out.trans hE2); clear hE2)
    | (go_at_call 11; refine (KI2.out _ HE2.out).mono ?_; rintro e w3 ⟨rfl, hE3⟩))
  go_ret
  exact ⟨rfl, HE.out.trans (HE2.out.trans hE3)⟩

set_option maxRecDepth 100000 in
set_option maxHeartbeats 8000000 in
theorem tells_walk (v : Value) (l : List Rv) (s t : Int) (A : Option Addr) (m c : Nat) (bs : List Nat) (w : World) (hF : Rs w v l) (hm : m = bs.length) (hmc : m ≤ c) (hS : Bs w A bs) :
    Calls Try.prog 3 #[v, .int .i64 s, .int .i64 t, .slice A m c] w fun e w' => e = .returned (.bool true) ∧ Ext w w' := by
  have HF := veil hF
  have HS := veil (And.intro hm (And.intro hmc hS))
  have KU := veil (up11_calls w)
  obtain ⟨AL, cl, rfl, hcl, hx⟩ := hF
  obtain ⟨n, hn⟩ : ∃ n, n = l.length := ⟨_, rfl⟩
  rw [← hn] at HF hcl ⊢
  have HN := veil hn
  clear hx hn hm hmc hS hcl
  go_enter Try.func3, Try.ntmps3
  go_upto_region 2 with (go_at_call 6; refine KU.out.mono ?_; rintro e w1 ⟨rfl, hE1⟩)
  have HE1 := veil hE1
  clear hE1 KU
  by_cases g1 : (300 : Int) < (n : Int)
  · have hd : decide ((300 : Int) < (n : Int)) = true := decide_eq_true g1
    go_wp2
    go_ret
    exact ⟨rfl, HE1.out⟩
  · have hd : decide ((300 : Int) < (n : Int)) = false := decide_eq_false g1
    by_cases g2 : (8000 : Int) < (m : Int)
    · have hd2 : decide ((8000 : Int) < (m : Int)) = true := decide_eq_true g2
      go_wp2
      go_ret
      exact ⟨rfl, HE1.out⟩
    · have hd2 : decide ((8000 : Int) < (m : Int)) = false := decide_eq_false g2
      have hfl : l.length ≤ 300 := by have := HN.out; omega
      have hmle : m ≤ 8000 := by omega
      have KM := veil (rmay11_calls _ l w1 (HF.out.ext HE1.out) (by omega))
      have KI := veil (fun W (h : Ext w W) => ris11_calls _ l s t W (HF.out.ext h) (by omega))
      obtain ⟨R, hR⟩ : ∃ R, R = isR l s t := ⟨_, rfl⟩
      rw [← hR] at KI
      have HR := veil hR
      clear hR
      cases hmy : mayRs l with
      | false =>
        rw [hmy] at KM
        have HM := veil hmy
        clear hmy g1 g2
        go_upto_region 5 with (go_at_call 7; refine KM.out.mono ?_; rintro e w2 ⟨rfl, hE2⟩)
        have HE2 := veil (HE1.out.trans hE2)
        clear hE2 KM KI
        have KB := veil (bytes11_calls _ l w2 (HF.out.ext HE2.out) (by omega))
        go_upto_region 7 with (go_at_call 9; refine KB.out.mono ?_; rintro e w3 ⟨x, ev, rfl, hE3, hA⟩)
        rcases hA with ⟨_, rfl, rfl⟩ | ⟨h, _⟩
        · have HE3 := veil (HE2.out.trans hE3)
          clear hE3 KB
          refine wp_sched 40 [(true, List.range 40)] (by kernel_rfl) (by kernel_rfl) fun Q' hQ' => ?_
          refine' sched_row (A := _) _ rfl (by kernel_rfl) ?_ ?_
          rotate_left
          · intro D hD hN
            have k1 : ∀ x : Gw D, (binOp .neq 28 (.iface 32 (.int .i64 1)) (.iface 32 (.int .i64 1))).run Try.prog x.val = .ok (.bool false) x.val := fun x => neErr1 _
            have KC := veil (fun x : Gw D => up_calls11 hD (v := .bool false) (fun W hW => by have := may11_calls _ l W (HF.out.ext (HE3.out.trans hW)) (by omega); rwa [HM.out] at this) x)
            have KJ := veil (fun x : Gw D => up_calls11 hD (v := .bool false) (fun W hW => by have := is11_calls _ l s t W (HF.out.ext (HE3.out.trans hW)) (by omega); rwa [HM.out] at this) x)
            simp only [List.range, List.range.loop, pickI, consO, List.getElem?_cons_zero, List.getElem?_cons_succ]
            repeat (go_big_quiet_step (first | exact KC.out _ | exact KJ.out _))
            exact wpq_end
          refine sched_end hQ' fun W4 hE4 => ?_
          have HE4 := veil (HE3.out.trans hE4)
          clear hE4
          have KG := veil (parse11_calls A m c bs HS.out.1 HS.out.2.1 (by omega) W4 (HS.out.2.2.ext HE4.out))
          go_upto_region 10 with (go_at_call 13; refine KG.out.mono ?_; rintro e w5 ⟨x, ev, rfl, hE5, hA5⟩)
          have HE5 := veil (HE4.out.trans hE5)
          have KH := veil (rparse11_calls A m c bs HS.out.1 HS.out.2.1 (by omega) w5 (HS.out.2.2.ext HE5.out))
          clear KG
          go_upto_region 11 with (go_at_call 14; refine KH.out.mono ?_; rintro e w6 ⟨y, z, rfl, hE6, hR6⟩)
          have HE6 := veil (HE5.out.trans hE6)
          rcases hR6 with ⟨hn, rfl, rfl⟩ | ⟨l2, hs, hR2, rfl⟩
          · rcases hA5 with ⟨_, rfl, rfl⟩ | ⟨l3, hs, _⟩
            · have k2 := fun W => eqErr2 W
              clear KH hE5 hE6 hn
              go_wp2
              go_ret
              exact ⟨rfl, HE6.out⟩
            · rw [hn] at hs; cases hs
          · rcases hA5 with ⟨hn, _⟩ | ⟨l3, hs', rfl, hR3⟩
            · rw [hn] at hs; cases hs
            · obtain rfl : l3 = l2 := by rw [hs] at hs'; exact (Option.some.inj hs').symm
              have hmy := revOf_may hs
              have KS := veil (rsame11_calls x y l3 w6 (hR3.ext hE6) hR2 (wfR_may hmy) (by have := mayRs_200 hmy; omega))
              clear KH hE5 hE6 hs hs' hR2 hR3 hmy
              go_wp2_with (go_at_call 15; refine KS.out.mono ?_; rintro e w7 ⟨rfl, hE7⟩)
              go_ret
              exact ⟨rfl, HE6.out.trans hE7⟩
        · rw [HM.out] at h; cases h
      | true =>
        rw [hmy] at KM
        have HM := veil hmy
        clear hmy g1 g2
        go_upto_region 5 with (go_at_call 7; refine KM.out.mono ?_; rintro e w2 ⟨rfl, hE2⟩)
        have HE2 := veil (HE1.out.trans hE2)
        clear hE2 KM
        go_upto_region 6 with (go_at_call 8; refine (KI.out _ HE2.out).mono ?_; rintro e w9 ⟨rfl, hE9⟩)
        have HE9 := veil (HE2.out.trans hE9)
        clear hE9 KI
        have KB := veil (bytes11_calls _ l w9 (HF.out.ext HE9.out) (by omega))
        go_upto_region 7 with (go_at_call 9; refine KB.out.mono ?_; rintro e w3 ⟨x, ev, rfl, hE3, hA⟩)
        rcases hA with ⟨h, _⟩ | ⟨_, rfl, A2, c2, rfl, hc2, hB2⟩
        · rw [HM.out] at h; cases h
        · have HE3 := veil (HE9.out.trans hE3)
          obtain ⟨L, hL⟩ : ∃ L, L = (revB l).length := ⟨_, rfl⟩
          rw [← hL] at hc2 ⊢
          have hsz : ((strL (revB l)).size : Int) ≤ 4194432 := by
            rw [strL_size]
            unfold revB
            have := encF_length_le [((1 : Int), rvsB l)] 4800 (fun f hf => by rw [List.mem_singleton.1 hf]; show (rvsB l).length ≤ 4800; rw [rvsB_length]; omega)
            simp only [List.length_singleton] at this
            omega
          have HL := veil (And.intro hL hB2)
          have fR : (R != R) = false := by cases R <;> rfl
          clear hL hB2 hE3 KB
          refine wp_sched 40 [(true, List.range 40)] (by kernel_rfl) (by kernel_rfl) fun Q' hQ' => ?_
          refine' sched_row (A := _) _ rfl (by kernel_rfl) ?_ ?_
          rotate_left
          · intro D hD hN
            have k1 : ∀ x : Gw D, (convert 23 9 (.slice A2 L c2)).run Try.prog x.val = .ok (.string (strL (revB l))) x.val := fun x => str_of (HL.out.2.ext (hD.grown _ x.property)) HL.out.1
            have KC := veil (fun x : Gw D => up_calls11 hD (v := .bool true) (fun W hW => by have := may11_calls _ l W (HF.out.ext (HE3.out.trans hW)) (by omega); rwa [HM.out] at this) x)
            have KJ := veil (fun x : Gw D => up_calls11 hD (v := .bool R) (fun W hW => by have := is11_calls _ l s t W (HF.out.ext (HE3.out.trans hW)) (by omega); rwa [HM.out, Bool.true_and, ← HR.out] at this) x)
            have KR := veil (fun x : Gw D => up_calls11 hD (v := .string (strL (revB l))) (fun W hW => rbytes11_calls _ l W (HF.out.ext (HE3.out.trans hW)) HM.out) x)
            simp only [List.range, List.range.loop, pickI, consO, List.getElem?_cons_zero, List.getElem?_cons_succ]
            repeat (go_big_quiet_step (first | exact KC.out _ | exact KJ.out _ | exact KR.out _))
            exact wpq_end
          refine sched_end hQ' fun W4 hE4 => ?_
          have HE4 := veil (HE3.out.trans hE4)
          clear hE4 fR hsz
          have KG := veil (parse11_calls A m c bs HS.out.1 HS.out.2.1 (by omega) W4 (HS.out.2.2.ext HE4.out))
          go_upto_region 10 with (go_at_call 13; refine KG.out.mono ?_; rintro e w5 ⟨x, ev, rfl, hE5, hA5⟩)
          have HE5 := veil (HE4.out.trans hE5)
          have KH := veil (rparse11_calls A m c bs HS.out.1 HS.out.2.1 (by omega) w5 (HS.out.2.2.ext HE5.out))
          clear KG
          go_upto_region 11 with (go_at_call 14; refine KH.out.mono ?_; rintro e w6 ⟨y, z, rfl, hE6, hR6⟩)
          have HE6 := veil (HE5.out.trans hE6)
          rcases hR6 with ⟨hn, rfl, rfl⟩ | ⟨l2, hs, hR2, rfl⟩
          · rcases hA5 with ⟨_, rfl, rfl⟩ | ⟨l3, hs, _⟩
            · have k2 := fun W => eqErr2 W
              clear KH hE5 hE6 hn
              go_wp2
              go_ret
              exact ⟨rfl, HE6.out⟩
            · rw [hn] at hs; cases hs
          · rcases hA5 with ⟨hn, _⟩ | ⟨l3, hs', rfl, hR3⟩
            · rw [hn] at hs; cases hs
            · obtain rfl : l3 = l2 := by rw [hs] at hs'; exact (Option.some.inj hs').symm
              have hmy := revOf_may hs
              have KS := veil (rsame11_calls x y l3 w6 (hR3.ext hE6) hR2 (wfR_may hmy) (by have := mayRs_200 hmy; omega))
              clear KH hE5 hE6 hs hs' hR2 hR3 hmy
              go_wp2_with (go_at_call 15; refine KS.out.mono ?_; rintro e w7 ⟨rfl, hE7⟩)
              go_ret
              exact ⟨rfl, HE6.out.trans hE7⟩
end Go.Proofs.Ytldnncamaglofaa
