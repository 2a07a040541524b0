/-
  clapperlaw08.TlvNumbers, walked under what it asks of the code.
-/
import Derived.Test.YtiopilhpeohaoaaTB
namespace Go.Proofs.Ytiopilhpeohaoaa
open Go.RowKit

theorem index_strL {bs : List Nat} (h : Byt bs) {i : Nat} (hi : i < bs.length) (W : World) : (Instr.index 9 (.string (strL bs)) (.int .i64 (i : Int))).run Try.prog W = .ok (.int .u8 (bs.getD i 0 : Nat)) W := by
  rw [run_index_string (P := Try.prog) W 9 (strL bs) .i64 (i : Int) Try.underlying9]
  have hs : (i : Int) < ((strL bs).size : Nat) := by rw [strL_size]; omega
  rw [dif_pos ⟨by omega, hs⟩]
  congr 2
  have e : ((strL bs)[(i : Int).toNat]'(by rw [strL_size]; omega)) = UInt8.ofNat (bs.getD i 0) := by
    simp only [strL, Int.toNat_natCast]
    rw [List.getD_eq_getElem?_getD, List.getElem?_eq_getElem hi]
    show (Array.mk (bs.map fun b => UInt8.ofNat b))[i]'_ = _
    simp
  rw [e]
  have hb := h.getD i
  generalize bs.getD i 0 = b at hb ⊢
  simp
  omega
theorem run_index_v {P : Program} {o : Oper} {a : Act} {t : TypeId} {x y : Operand} {v u v' : Value} {W : World} (ho : o.op = .index t x y) (hx : a.eval x = v) (hy : a.eval y = u) (h : (Instr.index t v u).run P W = .ok v' W) : (execOp a.eval o).run P W = .ok (.value v') W := by
  unfold execOp
  simp only [ho, hx, hy, Sem.run_bind, h, Result.andThen_ok, Sem.run_pure]

set_option maxRecDepth 100000 in
set_option maxHeartbeats 8000000 in
theorem numbers_walk (C : Code8) (n : Int) (hn1 : -9223372036854775808 ≤ n) (hn2 : n ≤ 9223372036854775807) (A : Option Addr) (m c : Nat) (bs : List Nat) (w : World) (hm : m = bs.length) (hmc : m ≤ c) (hS : Bs w A bs) :
    Calls Try.prog 4 #[.int .i64 n, .slice A m c] w fun e w' => e = .returned (.bool true) ∧ Ext w w' := by
  have HC := veil C
  have HS := veil (And.intro hm (And.intro hmc hS))
  have KU := veil (up8_calls C w)
  have KN := veil (fun W => C.number n W hn1 hn2)
  have HB := veil (And.intro hn1 hn2)
  have hw := ofB_le hS.1
  have HW := veil hw
  clear C hm hmc hS
  go_enter Try.func4, Try.ntmps4
  go_upto_region 2 with (go_at_call 7; refine KU.out.mono ?_; rintro e w1 ⟨rfl, hE1⟩)
  have HE1 := veil hE1
  have KO := veil (HC.out.of A m c bs w1 HS.out.1 HS.out.2.1 (HS.out.2.2.ext hE1))
  clear hE1 KU
  go_upto_region 3 with (go_at_call 15; refine KO.out.mono ?_; rintro e w2 ⟨x, ev, rfl, hE2, hA⟩)
  have HE2 := veil (HE1.out.trans hE2)
  have KR := veil (rof8_calls A m c bs HS.out.1 w2 (HS.out.2.2.ext HE2.out))
  clear hE2 KO HE1
  unfold OfA at hA
  generalize ofB bs = Wt at *
  go_upto_region 4 with (go_at_call 16; refine KR.out.mono ?_; rintro e w3 ⟨rfl, hE3⟩)
  have HE3 := veil (HE2.out.trans hE3)
  clear hE3 KR HE2
  have k2 := fun W => neErr2 W
  rcases hA with ⟨hneg, rfl, rfl⟩ | ⟨hpos, rfl, rfl⟩
  have hd1 : decide (Wt < 0) = true := decide_eq_true hneg
  have hd2 : decide (0 ≤ Wt) = false := decide_eq_false (by omega)
  go_upto_region 6 with (fail)
  clear hd1 hd2 hneg
  rotate_left
  have hd1 : decide (Wt < 0) = false := decide_eq_false (by omega)
  have hd2 : decide (0 ≤ Wt) = true := decide_eq_true hpos
  go_upto_region 6 with (fail)
  clear hd1 hd2 hpos
  all_goals
    clear hw k2
    go_upto_region 7 with (go_at_call 17; refine (KN.out _).mono ?_; rintro e w4 ⟨A2, c2, rfl, hc2, hB2, hE4⟩)
    have HE4 := veil (HE3.out.trans hE4)
    have HB2 := veil hB2
    clear hE4 hB2 KN HE3
    by_cases g : n < 0
    · have hd : decide (n < 0) = true := decide_eq_true g
      obtain ⟨j, hj⟩ : ∃ j, n + 1 = j := ⟨_, rfl⟩
      obtain ⟨k, hk⟩ : ∃ k : Nat, -j = (k : Int) := ⟨(-j).toNat, by omega⟩
      have hk2 : k ≤ 9223372036854775807 := by omega
      have hjl : -9223372036854775808 < j := by omega
      have hjh : j ≤ 9223372036854775807 := by omega
      have HJ := veil (show (k : Int) = -(n + 1) by omega)
      have KM := veil (rnum8_calls k hk2 w4)
      go_upto_region 9 with (go_at_call 18; refine KM.out.mono ?_; rintro e w5 ⟨rfl, hE5⟩)
      have HE5 := veil (HE4.out.trans hE5)
      have HB5 := veil (HB2.out.ext hE5)
      have HI := veil (fun (i : Nat) (hi : i < 8) (W : World) => index_strL (numB_byt (k : Int)) (i := i) (by rw [numB_length]; exact hi) W)
      obtain ⟨S, hS⟩ : ∃ S, S = strL (numB (k : Int)) := ⟨_, rfl⟩
      rw [← hS] at HI ⊢
      clear hS hE5 KM hj hk hk2 hjl hjh hd
      go_upto_region 10 with (fail)
      go_loopw [11] (fun v wr => ∃ i : Nat, i ≤ 8 ∧ v = .int .i64 (i : Int) ∧ Ext w5 wr)
        (fun v _ => 8 - (intOf v).toNat)
      case atStart => exact ⟨0, by omega, rfl, Ext.refl _⟩
      case round =>
        obtain ⟨i, hi, rfl, hE⟩ := hrel
        by_cases hlt : i < 8
        · have hd1 : decide ((i : Int) < 8) = true := by simp; omega
          have hd2 : (i : Int) < 8 := by omega
          have hn := numB_neg HB.out.1 g hlt
          rw [← HJ.out] at hn
          have kI := veil (HI.out i hlt)
          have z0 := (numB_byt (k : Int)).getD i
          obtain ⟨b, o, hA, hb, c0⟩ := (HB5.out.ext hE).cell (j := i) (by rw [numB_length]; exact hlt)
          generalize (numB n).getD i 0 = P at *
          generalize (numB (k : Int)).getD i 0 = Z at *
          have hPZ : (P : Int) = 255 - (Z : Int) := by omega
          have hZ : (Z : Int) ≤ 255 := by omega
          have HBH := veil HB5.out
          subst hA
          clear hn z0
          go_upto_region 12 with (fail)
          refine wp_sched 9 [(true, List.range 9)] (by kernel_rfl) (by kernel_rfl) fun Q' hQ' => ?_
          refine' sched_row (A := _) _ rfl (by kernel_rfl) ?_ ?_
          rotate_left
          · intro D hD hN
            have d0 := hD.cell c0
            simp only [List.range, List.range.loop, pickI, consO, List.getElem?_cons_zero, List.getElem?_cons_succ]
            iterate 6 (go_big_quiet_step (fail))
            go_big_quiet_want
            refine quiet_val (.int .u8 (Z : Int)) (fun x => run_index_v rfl rfl rfl (kI.out x.val)) ?_
            simp only [Act.put, List.setIfInBounds_toArray, List.set_cons_zero, List.set_cons_succ]
            go_big_quiet_on
            repeat (go_big_quiet_step (fail))
            exact wpq_end
          refine sched_end hQ' fun W7 hE7 => ?_
          go_wp2
          go_roundw
          case rel => exact ⟨i + 1, by omega, by go_num, hE.trans hE7⟩
          case measure => simp [intOf]; omega
        · obtain rfl : i = 8 := by omega
          have hE8 := HE5.out.trans hE
          go_wp2
          go_ret
          exact ⟨rfl, hE8⟩
    · have hd : decide (n < 0) = false := decide_eq_false g
      obtain ⟨k, rfl⟩ : ∃ k : Nat, n = (k : Int) := ⟨n.toNat, by omega⟩
      have hk : k ≤ 9223372036854775807 := by omega
      go_upto_region 15 with (fail)
      refine wp_sched 9 [(true, List.range 9)] (by kernel_rfl) (by kernel_rfl) fun Q' hQ' => ?_
      refine' sched_row (A := _) _ rfl (by kernel_rfl) ?_ ?_
      rotate_left
      · intro D hD hN
        have k1 : ∀ x : Gw D, (convert 23 9 (.slice A2 8 c2)).run Try.prog x.val = .ok (.string (strL (numB (k : Int)))) x.val := fun x => str_of (HB2.out.ext (hD.grown _ x.property)) (numB_length _).symm
        have KC := veil (fun x : Gw D => hD.call (v := .string (strL (numB (k : Int)))) (fun W _ => rnum8_calls k hk W) x)
        simp only [List.range, List.range.loop, pickI, consO, List.getElem?_cons_zero, List.getElem?_cons_succ]
        repeat (go_big_quiet_step (exact KC.out _))
        exact wpq_end
      refine sched_end hQ' fun W5 hE5 => ?_
      go_wp2
      go_ret
      exact ⟨rfl, HE4.out.trans hE5⟩
end Go.Proofs.Ytiopilhpeohaoaa
