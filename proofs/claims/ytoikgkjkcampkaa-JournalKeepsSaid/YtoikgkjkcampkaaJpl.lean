/-
  The landed journal: Tear. Printed by tools/gen_jpl.py.
-/
import Derived.Test.YtoikgkjkcampkaaJpk
namespace Go.Proofs.Ytoikgkjkcampkaa
open Go.RowKit

theorem hzWr (W : World) : (Instr.alloc 51 true (.tuple #[])).run Try.prog W = .ok (ptrTo W.heap.size) (W.alloc (.cells (wrC 0 (.slice none 0 0) 0 (.slice none 0 0)) 51)) := by kernel_rfl
/-- What Tear comes to. -/
def TearK (h g : Nat) (B : List Nat) (e t' e' : Nat) (r : List Nat) (st n : Int) (w' : World) : Prop :=
  (st = 1 ∧ 0 ≤ n ∧ n ≤ ((encR r).length : Nat) ∧ Fla w' g h (putAt B (48 + e) ((encR r).take n.toNat))) ∨
  (st = 2 ∧ 0 ≤ n ∧ n ≤ 24 ∧ Fla w' g h (putAt (stepsJ B e t' e' r 1) (24 * (t' % 2)) ((slotB t' e').take n.toNat)))

set_option maxRecDepth 100000 in
set_option maxHeartbeats 4000000 in
theorem jtear_calls (q g h t e : Nat) (B : List Nat) (h64 : 64 ≤ B.length) (hs : (endJ B).1 ≤ t) (ht : t < 4611686018427387904) (he : e ≤ B.length - 48) (w : World) (hF : Fla w g h B) (hJ : Jou w q g t e) (A : Option Addr) (m c : Nat) (r : List Nat) (hm : m = r.length) (hmc : m ≤ c) (hB : Bs w A r) (st n : Int) :
    Calls Try.prog 8 #[.pointer (some ⟨q, 0, none⟩), .slice A m c, .int .i64 st, .int .i64 n] w fun ev w' => ∃ x, ev = .returned x ∧ (((∃ y : Int, x = .iface 39 (.int .i64 y)) ∧ Ext w w') ∨
      ((1 ≤ m ∧ m ≤ 2000 ∧ m ≤ B.length - 48 - e - 2) ∧ x = .nilIface ∧ Chg (fun k => k = h ∨ k = q) w w' ∧ TearK h g B e (t + 1) (e + 2 + m) r st n w')) := by
  have KR := veil (refusal_calls q g h t e B h64 hs he w hF hJ A m c)
  have hmany := hF.many
  have KN := veil (fun W (h' : Ext w W) (hm : m ≤ 1048576) => next_calls q g t e ht (by omega) W (hJ.ext h') A m c hm)
  have KW := veil (fun W (h' : Ext w W) (h1 : 1 ≤ m) (h2 : m ≤ 2000) => writes_calls q g t e (t + 1) (e + 2 + m) (by omega) (by omega) (by omega) W (hJ.ext h') A m c r hm hmc h1 h2 (hB.ext h'))
  have H0 := veil (And.intro hF (And.intro hJ (And.intro hm (And.intro (jou_neh hJ hF) (And.intro h64 (And.intro he ht))))))
  clear hF hJ hB hm
  have ke : ∀ y W, (binOp .neq 27 (.iface 39 (.int .i64 y)) .nilIface).run Try.prog W = .ok (.bool true) W := fun y W => by kernel_rfl
  have kn := neNil16
  go_enter Try.func8, Try.ntmps8
  go_upto_region 2 with (go_at_call 14; refine KR.out.mono ?_; rintro _ w1 ⟨x, rfl, hE1, hx⟩)
  have H1 := veil hE1
  clear hE1 KR
  rcases hx with ⟨rfl, m1, m2, m3⟩ | ⟨hno, y, rfl⟩
  · have HM := veil (And.intro m1 (And.intro m2 (show m ≤ B.length - 48 - e - 2 by omega)))
    have KN1 := veil (KN.out w1 H1.out (by omega))
    have KW1 := veil (fun W (h' : Ext w1 W) => KW.out W (H1.out.trans h') m1 m2)
    clear KN KW m1 m2 m3
    have hbd : t + 1 < 9223372036854775808 ∧ e + 2 + m ≤ 1048576 := by have := HM.out; omega
    generalize ht1 : t + 1 = t1 at *
    generalize he1 : e + 2 + m = e1 at *
    have hq := World.rowIs.lt H0.out.2.1
    have hh := H0.out.1.row.lt
    have H9 := veil (And.intro ht1 (And.intro he1 (And.intro hbd (And.intro hq hh))))
    clear ht1 he1 hbd hq hh
    by_cases c1 : st = 1
    · skip
      subst c1
      go_upto_region 7 with (first
        | (go_at_call 15; refine KN1.out.mono ?_; rintro _ w2 ⟨rfl, hE2⟩; have KW2 := veil (KW1.out w2 hE2))
        | (go_at_call 16; refine KW2.out.mono ?_; rintro _ w3 ⟨v1, v2, rfl, hE3, ⟨b1, o1, d1, rfl, hd1, hB1, hf1⟩, ⟨b2, o2, d2, rfl, hd2, hB2, hf2⟩⟩)
        | ((with_reducible refine at_slot 10 ?_); refine wpl_var _ _ rfl rfl rfl rfl rfl rfl (cells := wrC (48 + (e : Int)) (.slice (some ⟨b1, o1, none⟩) (encR r).length d1) (((24 * (t1 % 2) : Nat) : Int)) (.slice (some ⟨b2, o2, none⟩) (slotB t1 e1).length d2)) hzWr (fun _ => rfl) (fun _ => rfl) (iWr _ _ _ _) rfl (wr_one _ _ _ _ _ _ _ _) ?_; intro gr w4 hgr hb4 hE4; simp only [Act.put, List.setIfInBounds_toArray, List.set_cons_zero, List.set_cons_succ, ptrTo]))
      have hf1 := Nat.le_trans (Below.size (H1.out.trans hE2)) hf1
      have hf2 := Nat.le_trans (Below.size (H1.out.trans hE2)) hf2
      have hbb : Bs w4 (some ⟨b1, o1, none⟩) (encR r) := hB1.ext hE4
      obtain ⟨a2, ha2, ha3⟩ : ∃ a2 : Nat, 24 * ((t1 : Int) % 2) = (a2 : Int) ∧ a2 = 24 * (t1 % 2) := ⟨24 * (t1 % 2), by omega, rfl⟩
      have hb4b : w4.heap[gr]? = some (.cells #[.int .i64 (48 + (e : Int)), .slice (some ⟨b1, o1, none⟩) (m + 2) d1, .int .i64 (a2 : Int), .slice (some ⟨b2, o2, none⟩) 24 d2] 51 (0, 0)) := by
        have hl1 : (encR r).length = m + 2 := by rw [encR_len, H0.out.2.2.1]
        rw [hb4]
        unfold wrC
        rw [hl1, slotB_len, ← ha3]
      have cr0 := (cell_of_row w4 gr 0 _ _ _ hb4b).trans rfl
      have cr1 := (cell_of_row w4 gr 1 _ _ _ hb4b).trans rfl
      have cr2 := (cell_of_row w4 gr 2 _ _ _ hb4b).trans rfl
      have cr3 := (cell_of_row w4 gr 3 _ _ _ hb4b).trans rfl
      have hd12 : m + 2 ≤ d1 := by
        have hl1 : (encR r).length = m + 2 := by rw [encR_len, H0.out.2.2.1]
        omega
      have hE24 := hE2.trans (hE3.trans hE4)
      have H4 := veil (And.intro (H1.out.trans hE24) (And.intro hb4b (And.intro ha3 (And.intro (hB1.ext hE4) (And.intro (hB2.ext hE4) (And.intro hd12 (And.intro (show 24 ≤ d2 from hd2) (Nat.le_trans (Below.size H1.out) (Nat.le_trans (Below.size (hE2.trans hE3)) hgr)))))))))
      clear hd12 hb4 hb4b ha3 ha2 hbb hE2 hE3 hE4 hE24 hB1 hB2 hd1 hd2 KN1 KW1 KW2 hgr
      refine wp_sched 9 [(true, [0, 1, 2, 3, 4, 5, 6]), (false, [7]), (true, [8]), (false, [9])] (by kernel_rfl) (by kernel_rfl) fun Q' hQ' => ?_
      refine' sched_row (A := _) _ rfl (by kernel_rfl) ?_ ?_
      rotate_left
      · intro D hD hN'
        have e0 := hD.cell cr0
        have e1 := hD.cell cr1
        have e2 := hD.cell cr2
        have e3 := hD.cell cr3
        simp only [pickI, consO, List.getElem?_cons_zero, List.getElem?_cons_succ]
        repeat (go_big_quiet_step (fail))
        exact wpq_end
      clear cr0 cr1 cr2 cr3
      refine sched_one _ rfl rfl fun W5 hW5 => wp_alloc_made rfl hzW ⟨fun _ => Ext.alloc W5 _, ?_⟩
      obtain ⟨gw, hgw⟩ : ∃ k, k = W5.heap.size := ⟨_, rfl⟩
      have hn5 := heap_new W5 (.cells #[.int .i64 0, .slice none 0 0] 50)
      have hE5 := hW5.trans (Ext.alloc W5 (.cells #[.int .i64 0, .slice none 0 0] 50))
      rw [← hgw] at hn5 ⊢
      have hgl : w.heap.size ≤ gw := by rw [hgw]; exact Nat.le_trans (Below.size H4.out.1) (Below.size hW5)
      have hg4 : w4.heap.size ≤ gw := by rw [hgw]; exact Below.size hW5
      generalize W5.alloc (.cells #[.int .i64 0, .slice none 0 0] 50) = W6 at *
      simp only [Act.put, List.setIfInBounds_toArray, List.set_cons_zero, List.set_cons_succ]
      refine' sched_row (A := _) _ rfl (by kernel_rfl) ?_ ?_
      rotate_left
      · intro D hD hN'
        simp only [pickI, consO, List.getElem?_cons_zero, List.getElem?_cons_succ]
        repeat (go_big_quiet_step (fail))
        exact wpq_end
      refine sched_one _ rfl rfl fun W7 hW7 => ?_
      refine wp_store_row 50 _ _ rfl gw #[.int .i64 (48 + (e : Int)), .slice (some ⟨b1, o1, none⟩) (m + 2) d1] rfl rfl 50 _ (hW7.block hn5) (iW1 _ _) rfl (w1_one _ _ _ _) ⟨fun hk => absurd hk (by decide), ?_⟩
      refine sched_end hQ' fun W8 hE8 => ?_
      simp only [Act.put]
      have hb8 := hE8.block (setRow_heap W7 gw _ #[.int .i64 (48 + (e : Int)), .slice (some ⟨b1, o1, none⟩) (m + 2) d1] 50 (0, 0) (hW7.block hn5))
      have hE48 : Ext w4 W8 := ((Chg.of_but (but_setRow (But.refl gw W7) #[.int .i64 (48 + (e : Int)), .slice (some ⟨b1, o1, none⟩) (m + 2) d1])).new (hE5.trans hW7) fun z hz e => by omega).trans hE8
      have H8 := veil (And.intro hE48 (And.intro hb8 (And.intro hgl hg4)))
      clear hb8 hE48 hgl hg4 hE8 hW7 hn5 hE5 hW5 hgw
      have cw0 := (cell_of_row W8 gw 0 _ _ _ H8.out.2.1).trans rfl
      have cw1 := (cell_of_row W8 gw 1 _ _ _ H8.out.2.1).trans rfl
      by_cases n0 : n < 0
      · have d1 : decide (n < 0) = true := decide_eq_true n0
        go_wp2
        go_ret
        exact ⟨_, rfl, .inl ⟨⟨1, rfl⟩, H4.out.1.trans H8.out.1⟩⟩
      have d1 : decide (n < 0) = false := decide_eq_false n0
      by_cases n1 : (m : Int) + 2 < n
      · have d2 : decide ((m : Int) + 2 < n) = true := decide_eq_true n1
        go_wp2
        go_ret
        exact ⟨_, rfl, .inl ⟨⟨1, rfl⟩, H4.out.1.trans H8.out.1⟩⟩
      have d2 : decide ((m : Int) + 2 < n) = false := decide_eq_false n1
      obtain ⟨N, rfl⟩ : ∃ N : Nat, n = (N : Int) := ⟨n.toNat, by omega⟩
      have HN := veil (show N ≤ (m + 2) by omega)
      have hE08 := H4.out.1.trans H8.out.1
      have hJ8 := H0.out.2.1.ext hE08
      have KA := veil (area_calls q g h t e e B W8 (H0.out.1.ext hE08) hJ8 (by have := H0.out.2.2.2.2; omega))
      have c2 := hJ8.c2
      clear n0 n1
      go_upto_region 10 with (fail)
      clear cw0 cw1 d1 d2
      go_upto_region 11 with (go_at_call 18; refine KA.out.mono ?_; rintro _ w9 ⟨ka, rfl, hE9, hk9, hB9⟩; have hJ9 := hJ8.ext hE9; have c3 := hJ9.c3; have c4 : w9.cell? ⟨q, 4, none⟩ = some (.slice none 0 0) := World.rowIs.cell hJ9 (i := 4) (by omega); have fq3 := World.rowIs.frozen hJ9 3; have fq4 := World.rowIs.frozen hJ9 4; have H9b := veil (And.intro hJ9 hE9); clear hJ9 hE9 hk9 hB9)
      have hS : ∀ S : Value, Chg (fun k => k = q) w9 ((w9.setCell ⟨q, 4, none⟩ S).setCell ⟨q, 3, none⟩ (.bool true)) := fun S => Chg.setCell (F := fun k => k = q) (p := ⟨q, 3, none⟩) (Chg.setCell (F := fun k => k = q) (p := ⟨q, 4, none⟩) (Chg.refl _ w9) (.inl rfl) S) (.inl rfl) _
      have hS0 : ∀ S : Value, ((w9.setCell ⟨q, 4, none⟩ S).setCell ⟨q, 3, none⟩ (.bool true)).cell? ⟨q, 0, none⟩ = some (.pointer (some ⟨g, 0, none⟩)) := fun S =>
        World.rowIs.cell ((World.rowIs.set H9b.out.1 4 S).set 3 (.bool true)) (i := 0) (by omega)
      have hS := hS (.slice (some ⟨ka, 0, none⟩) e e)
      have hS0 := hS0 (.slice (some ⟨ka, 0, none⟩) e e)
      generalize (w9.setCell ⟨q, 4, none⟩ (.slice (some ⟨ka, 0, none⟩) e e)).setCell ⟨q, 3, none⟩ (.bool true) = w10 at *
      have hE49 := H8.out.1.trans H9b.out.2
      have hC : Chg (fun k => k = q) w4 w10 := (Chg.of_ext (F := fun k => k = q) hE49).trans hS fun _ _ e => e
      have hqs : q < w.heap.size := H9.out.2.2.2.1
      have hw4 := Below.size H4.out.1
      have hl1 : (encR r).length = m + 2 := by rw [encR_len, H0.out.2.2.1]
      have H10 := veil (show Fla w10 g h B ∧ Chg (fun k => k = h ∨ k = q) w w10 ∧ w10.cell? ⟨q, 0, none⟩ = some (.pointer (some ⟨g, 0, none⟩)) ∧ w10.heap[gw]? = some (.cells #[.int .i64 (48 + (e : Int)), .slice (some ⟨b1, o1, none⟩) (m + 2) d1] 50 (0, 0)) ∧ w10.heap[gr]? = some (.cells #[.int .i64 (48 + (e : Int)), .slice (some ⟨b1, o1, none⟩) (m + 2) d1, .int .i64 (a2 : Int), .slice (some ⟨b2, o2, none⟩) 24 d2] 51 (0, 0)) ∧ Bs w10 (some ⟨b1, o1, none⟩) (encR r) ∧ Bs w10 (some ⟨b2, o2, none⟩) (slotB t1 e1) from
        ⟨((H0.out.1.ext H4.out.1).ext hE49).chg hS (fun e => jou_ne H0.out.2.1 H0.out.1 e.symm) (fun e => H0.out.2.2.2.1 e.symm), (Chg.of_ext (F := fun k => k = h ∨ k = q) H4.out.1).trans hC fun _ _ e => .inr e, hS0, hS.at (H9b.out.2.block H8.out.2.1) (fun e => by have := H8.out.2.2.1; omega), hC.at H4.out.2.1 (fun e => by have := H4.out.2.2.2.2.2.2.2; omega), H4.out.2.2.2.1.chg hC (fun e => by have := hf1; have := Below.size H1.out; omega), H4.out.2.2.2.2.1.chg hC (fun e => by have := hf2; have := Below.size H1.out; omega)⟩)
      have HF := veil (And.intro hf1 (And.intro hf2 (And.intro hl1 (And.intro hqs H9.out.2.2.2.2))))
      clear hS hS0 hE49 hC hf1 hf2 hl1 hqs hw4 c2
      go_wp2
      go_loopw [66] (fun v66 wr => ∃ i : Nat, i ≤ 0 ∧ v66 = .int .i64 (i : Int) ∧ Fla wr g h (stepsJ B e t1 e1 r i) ∧ Chg (fun k => k = h ∨ k = q) w wr ∧ wr.cell? ⟨q, 0, none⟩ = some (.pointer (some ⟨g, 0, none⟩)) ∧ wr.heap[gw]? = some (.cells #[.int .i64 (48 + (e : Int)), .slice (some ⟨b1, o1, none⟩) (m + 2) d1] 50 (0, 0)) ∧ wr.heap[gr]? = some (.cells #[.int .i64 (48 + (e : Int)), .slice (some ⟨b1, o1, none⟩) (m + 2) d1, .int .i64 (a2 : Int), .slice (some ⟨b2, o2, none⟩) 24 d2] 51 (0, 0)) ∧ Bs wr (some ⟨b1, o1, none⟩) (encR r) ∧ Bs wr (some ⟨b2, o2, none⟩) (slotB t1 e1))
        (fun v _ => 0 - (intOf v).toNat)
      case atStart => exact ⟨0, by omega, rfl, H10.out⟩
      case round =>
        clear H10
        obtain ⟨i, hi, rfl, hrel⟩ := hrel
        have HS := veil hrel
        clear hrel
        obtain rfl : i = 0 := by omega
        go_upto_region 16 with (fail)
        have cv0 := (cell_of_row wr gw 0 _ _ _ HS.out.2.2.2.1).trans rfl
        have cv1 := (cell_of_row wr gw 1 _ _ _ HS.out.2.2.2.1).trans rfl
        have cq := HS.out.2.2.1
        refine wp_sched 9 [(true, List.range 9), (false, [9])] (by kernel_rfl) (by kernel_rfl) fun Q' hQ' => ?_
        refine' sched_row (A := _) _ rfl (by kernel_rfl) ?_ ?_
        rotate_left
        · intro D hD hN'
          have e0 := hD.cell cq
          have e1 := hD.cell cv0
          have e2 := hD.cell cv1
          simp only [List.range, List.range.loop, pickI, consO, List.getElem?_cons_zero, List.getElem?_cons_succ]
          repeat (go_big_quiet_step (fail))
          exact wpq_end
        clear cq cv0 cv1
        refine sched_one _ rfl rfl fun W hW => ?_
        have hW6 := ftear_calls g h (stepsJ B e t1 e1 r 0) (48 + e) b1 o1 (m + 2) d1 N (encR r) HF.out.2.2.1.symm H4.out.2.2.2.2.2.1 (by show (48 + e) + (m + 2) ≤ B.length; have := HM.out; have := H0.out.2.2.2.2; omega) HN.out W (HS.out.1.ext hW) (HS.out.2.2.2.2.2.1.ext hW)
        refine wp_funJ (V := fun v W' => v = .nilIface ∧ Chg (fun k => k = h) W W' ∧ Fla W' g h (putAt (stepsJ B e t1 e1 r 0) (48 + e) ((encR r).take N))) rfl rfl rfl (enter_in Try.func19 rfl rfl _) (hW6.mono fun _ _ ⟨he, hc, hf⟩ => ⟨_, he, rfl, hc, hf⟩) ?_
        rintro _ w6 ⟨rfl, hC6, hF6⟩
        refine ⟨fun hk => absurd hk (by decide), ?_⟩
        refine sched_end hQ' fun W7 hE7 => ?_
        simp only [Act.put, List.setIfInBounds_toArray, List.set_cons_zero, List.set_cons_succ]
        have hC7 : Chg (fun k => k = h ∨ k = q) w W7 := ((HS.out.2.1.ext hW).trans hC6 fun _ _ e => .inl e).ext hE7
        have H7 := veil (And.intro hC7 (hF6.ext hE7))
        clear hC6 hF6 hE7 hC7 hW6
        go_wp2
        go_ret
        rw [H9.out.1, H9.out.2.1]
        refine ⟨_, rfl, .inr ⟨HM.out, rfl, H7.out.1, .inl ⟨rfl, by omega, by rw [HF.out.2.2.1]; have := HN.out; omega, H7.out.2⟩⟩⟩
    by_cases c2 : st = 2
    · skip
      subst c2
      go_upto_region 7 with (first
        | (go_at_call 15; refine KN1.out.mono ?_; rintro _ w2 ⟨rfl, hE2⟩; have KW2 := veil (KW1.out w2 hE2))
        | (go_at_call 16; refine KW2.out.mono ?_; rintro _ w3 ⟨v1, v2, rfl, hE3, ⟨b1, o1, d1, rfl, hd1, hB1, hf1⟩, ⟨b2, o2, d2, rfl, hd2, hB2, hf2⟩⟩)
        | ((with_reducible refine at_slot 10 ?_); refine wpl_var _ _ rfl rfl rfl rfl rfl rfl (cells := wrC (48 + (e : Int)) (.slice (some ⟨b1, o1, none⟩) (encR r).length d1) (((24 * (t1 % 2) : Nat) : Int)) (.slice (some ⟨b2, o2, none⟩) (slotB t1 e1).length d2)) hzWr (fun _ => rfl) (fun _ => rfl) (iWr _ _ _ _) rfl (wr_one _ _ _ _ _ _ _ _) ?_; intro gr w4 hgr hb4 hE4; simp only [Act.put, List.setIfInBounds_toArray, List.set_cons_zero, List.set_cons_succ, ptrTo]))
      have hf1 := Nat.le_trans (Below.size (H1.out.trans hE2)) hf1
      have hf2 := Nat.le_trans (Below.size (H1.out.trans hE2)) hf2
      have hbb : Bs w4 (some ⟨b2, o2, none⟩) (slotB t1 e1) := hB2.ext hE4
      obtain ⟨a2, ha2, ha3⟩ : ∃ a2 : Nat, 24 * ((t1 : Int) % 2) = (a2 : Int) ∧ a2 = 24 * (t1 % 2) := ⟨24 * (t1 % 2), by omega, rfl⟩
      have hb4b : w4.heap[gr]? = some (.cells #[.int .i64 (48 + (e : Int)), .slice (some ⟨b1, o1, none⟩) (m + 2) d1, .int .i64 (a2 : Int), .slice (some ⟨b2, o2, none⟩) 24 d2] 51 (0, 0)) := by
        have hl1 : (encR r).length = m + 2 := by rw [encR_len, H0.out.2.2.1]
        rw [hb4]
        unfold wrC
        rw [hl1, slotB_len, ← ha3]
      have cr0 := (cell_of_row w4 gr 0 _ _ _ hb4b).trans rfl
      have cr1 := (cell_of_row w4 gr 1 _ _ _ hb4b).trans rfl
      have cr2 := (cell_of_row w4 gr 2 _ _ _ hb4b).trans rfl
      have cr3 := (cell_of_row w4 gr 3 _ _ _ hb4b).trans rfl
      have hd12 : m + 2 ≤ d1 := by
        have hl1 : (encR r).length = m + 2 := by rw [encR_len, H0.out.2.2.1]
        omega
      have hE24 := hE2.trans (hE3.trans hE4)
      have H4 := veil (And.intro (H1.out.trans hE24) (And.intro hb4b (And.intro ha3 (And.intro (hB1.ext hE4) (And.intro (hB2.ext hE4) (And.intro hd12 (And.intro (show 24 ≤ d2 from hd2) (Nat.le_trans (Below.size H1.out) (Nat.le_trans (Below.size (hE2.trans hE3)) hgr)))))))))
      clear hd12 hb4 hb4b ha3 ha2 hbb hE2 hE3 hE4 hE24 hB1 hB2 hd1 hd2 KN1 KW1 KW2 hgr
      refine wp_sched 9 [(true, [0, 1, 2, 3, 4, 5, 6]), (false, [7]), (true, [8]), (false, [9])] (by kernel_rfl) (by kernel_rfl) fun Q' hQ' => ?_
      refine' sched_row (A := _) _ rfl (by kernel_rfl) ?_ ?_
      rotate_left
      · intro D hD hN'
        have e0 := hD.cell cr0
        have e1 := hD.cell cr1
        have e2 := hD.cell cr2
        have e3 := hD.cell cr3
        simp only [pickI, consO, List.getElem?_cons_zero, List.getElem?_cons_succ]
        repeat (go_big_quiet_step (fail))
        exact wpq_end
      clear cr0 cr1 cr2 cr3
      refine sched_one _ rfl rfl fun W5 hW5 => wp_alloc_made rfl hzW ⟨fun _ => Ext.alloc W5 _, ?_⟩
      obtain ⟨gw, hgw⟩ : ∃ k, k = W5.heap.size := ⟨_, rfl⟩
      have hn5 := heap_new W5 (.cells #[.int .i64 0, .slice none 0 0] 50)
      have hE5 := hW5.trans (Ext.alloc W5 (.cells #[.int .i64 0, .slice none 0 0] 50))
      rw [← hgw] at hn5 ⊢
      have hgl : w.heap.size ≤ gw := by rw [hgw]; exact Nat.le_trans (Below.size H4.out.1) (Below.size hW5)
      have hg4 : w4.heap.size ≤ gw := by rw [hgw]; exact Below.size hW5
      generalize W5.alloc (.cells #[.int .i64 0, .slice none 0 0] 50) = W6 at *
      simp only [Act.put, List.setIfInBounds_toArray, List.set_cons_zero, List.set_cons_succ]
      refine' sched_row (A := _) _ rfl (by kernel_rfl) ?_ ?_
      rotate_left
      · intro D hD hN'
        simp only [pickI, consO, List.getElem?_cons_zero, List.getElem?_cons_succ]
        repeat (go_big_quiet_step (fail))
        exact wpq_end
      refine sched_one _ rfl rfl fun W7 hW7 => ?_
      refine wp_store_row 50 _ _ rfl gw #[.int .i64 (a2 : Int), .slice (some ⟨b2, o2, none⟩) 24 d2] rfl rfl 50 _ (hW7.block hn5) (iW1 _ _) rfl (w1_one _ _ _ _) ⟨fun hk => absurd hk (by decide), ?_⟩
      refine sched_end hQ' fun W8 hE8 => ?_
      simp only [Act.put]
      have hb8 := hE8.block (setRow_heap W7 gw _ #[.int .i64 (a2 : Int), .slice (some ⟨b2, o2, none⟩) 24 d2] 50 (0, 0) (hW7.block hn5))
      have hE48 : Ext w4 W8 := ((Chg.of_but (but_setRow (But.refl gw W7) #[.int .i64 (a2 : Int), .slice (some ⟨b2, o2, none⟩) 24 d2])).new (hE5.trans hW7) fun z hz e => by omega).trans hE8
      have H8 := veil (And.intro hE48 (And.intro hb8 (And.intro hgl hg4)))
      clear hb8 hE48 hgl hg4 hE8 hW7 hn5 hE5 hW5 hgw
      have cw0 := (cell_of_row W8 gw 0 _ _ _ H8.out.2.1).trans rfl
      have cw1 := (cell_of_row W8 gw 1 _ _ _ H8.out.2.1).trans rfl
      by_cases n0 : n < 0
      · have d1 : decide (n < 0) = true := decide_eq_true n0
        go_wp2
        go_ret
        exact ⟨_, rfl, .inl ⟨⟨1, rfl⟩, H4.out.1.trans H8.out.1⟩⟩
      have d1 : decide (n < 0) = false := decide_eq_false n0
      by_cases n1 : (24 : Int) < n
      · have d2 : decide ((24 : Int) < n) = true := decide_eq_true n1
        go_wp2
        go_ret
        exact ⟨_, rfl, .inl ⟨⟨1, rfl⟩, H4.out.1.trans H8.out.1⟩⟩
      have d2 : decide ((24 : Int) < n) = false := decide_eq_false n1
      obtain ⟨N, rfl⟩ : ∃ N : Nat, n = (N : Int) := ⟨n.toNat, by omega⟩
      have HN := veil (show N ≤ 24 by omega)
      have hE08 := H4.out.1.trans H8.out.1
      have hJ8 := H0.out.2.1.ext hE08
      have KA := veil (area_calls q g h t e e B W8 (H0.out.1.ext hE08) hJ8 (by have := H0.out.2.2.2.2; omega))
      have c2 := hJ8.c2
      clear n0 n1
      go_upto_region 10 with (fail)
      clear cw0 cw1 d1 d2
      go_upto_region 11 with (go_at_call 18; refine KA.out.mono ?_; rintro _ w9 ⟨ka, rfl, hE9, hk9, hB9⟩; have hJ9 := hJ8.ext hE9; have c3 := hJ9.c3; have c4 : w9.cell? ⟨q, 4, none⟩ = some (.slice none 0 0) := World.rowIs.cell hJ9 (i := 4) (by omega); have fq3 := World.rowIs.frozen hJ9 3; have fq4 := World.rowIs.frozen hJ9 4; have H9b := veil (And.intro hJ9 hE9); clear hJ9 hE9 hk9 hB9)
      have hS : ∀ S : Value, Chg (fun k => k = q) w9 ((w9.setCell ⟨q, 4, none⟩ S).setCell ⟨q, 3, none⟩ (.bool true)) := fun S => Chg.setCell (F := fun k => k = q) (p := ⟨q, 3, none⟩) (Chg.setCell (F := fun k => k = q) (p := ⟨q, 4, none⟩) (Chg.refl _ w9) (.inl rfl) S) (.inl rfl) _
      have hS0 : ∀ S : Value, ((w9.setCell ⟨q, 4, none⟩ S).setCell ⟨q, 3, none⟩ (.bool true)).cell? ⟨q, 0, none⟩ = some (.pointer (some ⟨g, 0, none⟩)) := fun S =>
        World.rowIs.cell ((World.rowIs.set H9b.out.1 4 S).set 3 (.bool true)) (i := 0) (by omega)
      have hS := hS (.slice (some ⟨ka, 0, none⟩) e e)
      have hS0 := hS0 (.slice (some ⟨ka, 0, none⟩) e e)
      generalize (w9.setCell ⟨q, 4, none⟩ (.slice (some ⟨ka, 0, none⟩) e e)).setCell ⟨q, 3, none⟩ (.bool true) = w10 at *
      have hE49 := H8.out.1.trans H9b.out.2
      have hC : Chg (fun k => k = q) w4 w10 := (Chg.of_ext (F := fun k => k = q) hE49).trans hS fun _ _ e => e
      have hqs : q < w.heap.size := H9.out.2.2.2.1
      have hw4 := Below.size H4.out.1
      have hl1 : (encR r).length = m + 2 := by rw [encR_len, H0.out.2.2.1]
      have H10 := veil (show Fla w10 g h B ∧ Chg (fun k => k = h ∨ k = q) w w10 ∧ w10.cell? ⟨q, 0, none⟩ = some (.pointer (some ⟨g, 0, none⟩)) ∧ w10.heap[gw]? = some (.cells #[.int .i64 (a2 : Int), .slice (some ⟨b2, o2, none⟩) 24 d2] 50 (0, 0)) ∧ w10.heap[gr]? = some (.cells #[.int .i64 (48 + (e : Int)), .slice (some ⟨b1, o1, none⟩) (m + 2) d1, .int .i64 (a2 : Int), .slice (some ⟨b2, o2, none⟩) 24 d2] 51 (0, 0)) ∧ Bs w10 (some ⟨b1, o1, none⟩) (encR r) ∧ Bs w10 (some ⟨b2, o2, none⟩) (slotB t1 e1) from
        ⟨((H0.out.1.ext H4.out.1).ext hE49).chg hS (fun e => jou_ne H0.out.2.1 H0.out.1 e.symm) (fun e => H0.out.2.2.2.1 e.symm), (Chg.of_ext (F := fun k => k = h ∨ k = q) H4.out.1).trans hC fun _ _ e => .inr e, hS0, hS.at (H9b.out.2.block H8.out.2.1) (fun e => by have := H8.out.2.2.1; omega), hC.at H4.out.2.1 (fun e => by have := H4.out.2.2.2.2.2.2.2; omega), H4.out.2.2.2.1.chg hC (fun e => by have := hf1; have := Below.size H1.out; omega), H4.out.2.2.2.2.1.chg hC (fun e => by have := hf2; have := Below.size H1.out; omega)⟩)
      have HF := veil (And.intro hf1 (And.intro hf2 (And.intro hl1 (And.intro hqs H9.out.2.2.2.2))))
      clear hS hS0 hE49 hC hf1 hf2 hl1 hqs hw4 c2
      go_wp2
      go_loopw [66] (fun v66 wr => ∃ i : Nat, i ≤ 1 ∧ v66 = .int .i64 (i : Int) ∧ Fla wr g h (stepsJ B e t1 e1 r i) ∧ Chg (fun k => k = h ∨ k = q) w wr ∧ wr.cell? ⟨q, 0, none⟩ = some (.pointer (some ⟨g, 0, none⟩)) ∧ wr.heap[gw]? = some (.cells #[.int .i64 (a2 : Int), .slice (some ⟨b2, o2, none⟩) 24 d2] 50 (0, 0)) ∧ wr.heap[gr]? = some (.cells #[.int .i64 (48 + (e : Int)), .slice (some ⟨b1, o1, none⟩) (m + 2) d1, .int .i64 (a2 : Int), .slice (some ⟨b2, o2, none⟩) 24 d2] 51 (0, 0)) ∧ Bs wr (some ⟨b1, o1, none⟩) (encR r) ∧ Bs wr (some ⟨b2, o2, none⟩) (slotB t1 e1))
        (fun v _ => 1 - (intOf v).toNat)
      case atStart => exact ⟨0, by omega, rfl, H10.out⟩
      case round =>
        clear H10
        obtain ⟨i, hi, rfl, hrel⟩ := hrel
        have HS := veil hrel
        clear hrel
        by_cases hlt : i < 1
        · obtain rfl : i = 0 := by omega
          have cr0 := (cell_of_row wr gr 0 _ _ _ HS.out.2.2.2.2.1).trans rfl
          have cr1 := (cell_of_row wr gr 1 _ _ _ HS.out.2.2.2.2.1).trans rfl
          go_upto_region 14 with ((with_reducible refine at_slot 14 ?_); refine wpl_var _ _ rfl rfl rfl rfl rfl rfl (cells := #[.int .i64 (48 + (e : Int)), .slice (some ⟨b1, o1, none⟩) (m + 2) d1]) hzW (fun _ => rfl) (fun _ => rfl) (iW1 _ _) rfl (w1_one _ _ _ _) ?_; intro gv w5 hgv hb5 hE5; simp only [Act.put, List.setIfInBounds_toArray, List.set_cons_zero, List.set_cons_succ, ptrTo])
          clear cr0 cr1
          have cv0 := (cell_of_row w5 gv 0 _ _ _ hb5).trans rfl
          have cv1 := (cell_of_row w5 gv 1 _ _ _ hb5).trans rfl
          have hqw : q < wr.heap.size := Nat.lt_of_lt_of_le HF.out.2.2.2.1 HS.out.2.1.size
          have cq := (hE5.cell (o := 0) hqw).trans HS.out.2.2.1
          have HW := veil (And.intro (show (48 + e) + (m + 2) ≤ B.length by have := HM.out; have := H0.out.2.2.2.2; omega) (And.intro (HS.out.1.ext hE5) (And.intro (HS.out.2.2.2.2.2.1.ext hE5) (And.intro hE5 cq))))
          clear hE5 hgv hb5 hqw hlt hi
          refine wp_sched 8 [(true, List.range 8), (false, [8])] (by kernel_rfl) (by kernel_rfl) fun Q' hQ' => ?_
          refine' sched_row (A := _) _ rfl (by kernel_rfl) ?_ ?_
          rotate_left
          · intro D hD hN'
            have e0 := hD.cell cq
            have e1 := hD.cell cv0
            have e2 := hD.cell cv1
            simp only [List.range, List.range.loop, pickI, consO, List.getElem?_cons_zero, List.getElem?_cons_succ]
            repeat (go_big_quiet_step (fail))
            exact wpq_end
          clear cq cv0 cv1
          refine sched_one _ rfl rfl fun W hW => ?_
          have hW6 := fwrite_calls g h B (48 + e) b1 o1 (m + 2) d1 (encR r) HF.out.2.2.1.symm H4.out.2.2.2.2.2.1 HW.out.1 W (HW.out.2.1.ext hW) (HW.out.2.2.1.ext hW)
          refine wp_funJ (V := fun v W' => v = .nilIface ∧ Chg (fun k => k = h) W W' ∧ Fla W' g h (stepsJ B e t1 e1 r 1)) rfl rfl rfl (enter_in Try.func17 rfl rfl _) (hW6.mono fun _ _ ⟨he, hc, hf⟩ => ⟨_, he, rfl, hc, hf⟩) ?_
          rintro _ w6 ⟨rfl, hC6, hF6⟩
          refine ⟨fun hk => absurd hk (by decide), ?_⟩
          refine sched_end hQ' fun W7 hE7 => ?_
          simp only [Act.put, List.setIfInBounds_toArray, List.set_cons_zero, List.set_cons_succ]
          have hCr : Chg (fun k => k = h) wr W7 := (((Chg.of_ext (F := fun k => k = h) (HW.out.2.2.2.1.trans hW)).trans hC6 fun _ _ e => e)).ext hE7
          have hsz : w.heap.size ≤ wr.heap.size := HS.out.2.1.size
          have hhs := HF.out.2.2.2.2
          have H7 := veil (show Fla W7 g h (stepsJ B e t1 e1 r 1) ∧ Chg (fun k => k = h ∨ k = q) w W7 ∧ W7.cell? ⟨q, 0, none⟩ = some (.pointer (some ⟨g, 0, none⟩)) ∧ W7.heap[gw]? = some (.cells #[.int .i64 (a2 : Int), .slice (some ⟨b2, o2, none⟩) 24 d2] 50 (0, 0)) ∧ W7.heap[gr]? = some (.cells #[.int .i64 (48 + (e : Int)), .slice (some ⟨b1, o1, none⟩) (m + 2) d1, .int .i64 (a2 : Int), .slice (some ⟨b2, o2, none⟩) 24 d2] 51 (0, 0)) ∧ Bs W7 (some ⟨b1, o1, none⟩) (encR r) ∧ Bs W7 (some ⟨b2, o2, none⟩) (slotB t1 e1) from
            ⟨hF6.ext hE7, HS.out.2.1.trans hCr fun _ _ e => .inl e, (hCr.cell (p := ⟨q, 0, none⟩) (Nat.lt_of_lt_of_le HF.out.2.2.2.1 hsz) (fun e => H0.out.2.2.2.1 e)).trans HS.out.2.2.1, hCr.at HS.out.2.2.2.1 (fun e => by have := H8.out.2.2.1; omega), hCr.at HS.out.2.2.2.2.1 (fun e => by have := H4.out.2.2.2.2.2.2.2; omega), HS.out.2.2.2.2.2.1.chg hCr (fun e => by have := HF.out.1; have := Below.size H1.out; omega), HS.out.2.2.2.2.2.2.chg hCr (fun e => by have := HF.out.2.1; have := Below.size H1.out; omega)⟩)
          clear hC6 hF6 hE7 hCr hW6 hsz hhs
          go_wp2
          go_roundw
          case rel => exact ⟨1, by omega, by go_num, H7.out⟩
          case measure => simp [intOf]
        obtain rfl : i = 1 := by omega
        go_upto_region 16 with (fail)
        have cv0 := (cell_of_row wr gw 0 _ _ _ HS.out.2.2.2.1).trans rfl
        have cv1 := (cell_of_row wr gw 1 _ _ _ HS.out.2.2.2.1).trans rfl
        have cq := HS.out.2.2.1
        refine wp_sched 9 [(true, List.range 9), (false, [9])] (by kernel_rfl) (by kernel_rfl) fun Q' hQ' => ?_
        refine' sched_row (A := _) _ rfl (by kernel_rfl) ?_ ?_
        rotate_left
        · intro D hD hN'
          have e0 := hD.cell cq
          have e1 := hD.cell cv0
          have e2 := hD.cell cv1
          simp only [List.range, List.range.loop, pickI, consO, List.getElem?_cons_zero, List.getElem?_cons_succ]
          repeat (go_big_quiet_step (fail))
          exact wpq_end
        clear cq cv0 cv1
        refine sched_one _ rfl rfl fun W hW => ?_
        have hW6 := ftear_calls g h (stepsJ B e t1 e1 r 1) a2 b2 o2 24 d2 N (slotB t1 e1) (slotB_len _ _).symm H4.out.2.2.2.2.2.2.1 (by rw [steps_len (by rw [← H0.out.2.2.1]; have := HM.out; have := H0.out.2.2.2.2; omega)]; have := H4.out.2.2.1; have := H0.out.2.2.2.2.1; omega) HN.out W (HS.out.1.ext hW) (HS.out.2.2.2.2.2.2.ext hW)
        refine wp_funJ (V := fun v W' => v = .nilIface ∧ Chg (fun k => k = h) W W' ∧ Fla W' g h (putAt (stepsJ B e t1 e1 r 1) a2 ((slotB t1 e1).take N))) rfl rfl rfl (enter_in Try.func19 rfl rfl _) (hW6.mono fun _ _ ⟨he, hc, hf⟩ => ⟨_, he, rfl, hc, hf⟩) ?_
        rintro _ w6 ⟨rfl, hC6, hF6⟩
        refine ⟨fun hk => absurd hk (by decide), ?_⟩
        refine sched_end hQ' fun W7 hE7 => ?_
        simp only [Act.put, List.setIfInBounds_toArray, List.set_cons_zero, List.set_cons_succ]
        have hC7 : Chg (fun k => k = h ∨ k = q) w W7 := ((HS.out.2.1.ext hW).trans hC6 fun _ _ e => .inl e).ext hE7
        have H7 := veil (And.intro hC7 (hF6.ext hE7))
        clear hC6 hF6 hE7 hC7 hW6
        go_wp2
        go_ret
        rw [H9.out.1, H9.out.2.1]
        refine ⟨_, rfl, .inr ⟨HM.out, rfl, H7.out.1, .inr ⟨rfl, by omega, by have := HN.out; omega, by rw [← H4.out.2.2.1]; exact H7.out.2⟩⟩⟩
    have f1 : (st != 1) = true := bne_iff_ne.2 c1
    have f2 : (st != 2) = true := bne_iff_ne.2 c2
    go_wp2
    go_ret
    exact ⟨_, rfl, .inl ⟨⟨1, rfl⟩, H1.out⟩⟩
  · have ky := ke y
    clear hno
    go_wp2
    go_ret
    exact ⟨_, rfl, .inl ⟨⟨y, rfl⟩, H1.out⟩⟩
  end Go.Proofs.Ytoikgkjkcampkaa
