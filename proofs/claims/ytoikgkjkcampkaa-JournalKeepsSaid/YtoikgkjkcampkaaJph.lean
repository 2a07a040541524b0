/-
  The landed journal: Free, Records, refusal, next.
-/
import Derived.Test.YtoikgkjkcampkaaJpg
namespace Go.Proofs.Ytoikgkjkcampkaa
open Go.RowKit

/-- Nothing newer on the flash: look changes nothing. -/
theorem look_same (q g h t e : Nat) (B : List Nat) (h64 : 64 ≤ B.length) (hs : (endJ B).1 ≤ t) (w : World) (hF : Fla w g h B) (hJ : Jou w q g t e) :
    Calls Try.prog 13 #[.pointer (some ⟨q, 0, none⟩)] w fun ev w' => ev = .returned (.tuple #[]) ∧ Ext w w' :=
  (look_calls q g h t e B h64 w hF hJ).mono fun _ _ ⟨he, _, _, _, _, _, hE⟩ => ⟨he, hE hs⟩

set_option maxRecDepth 100000 in
set_option maxHeartbeats 4000000 in
theorem free_calls (q g h t e : Nat) (B : List Nat) (h64 : 64 ≤ B.length) (hs : (endJ B).1 ≤ t) (he : e ≤ B.length - 48) (w : World) (hF : Fla w g h B) (hJ : Jou w q g t e) :
    Calls Try.prog 11 #[.pointer (some ⟨q, 0, none⟩)] w fun ev w' => ev = .returned (.int .i64 ((min 2000 (B.length - 48 - e - 2) : Nat) : Int)) ∧ Ext w w' := by
  have KL := veil (look_same q g h t e B h64 hs w hF hJ)
  have KS := veil (fun W (h' : Ext w W) => jsize_calls q g h t e B W (hF.ext h') (hJ.ext h'))
  have HJ := veil hJ
  have c3 := hJ.c3
  have hm := hF.many
  clear hF hJ hs
  obtain ⟨N, hN⟩ : ∃ N, N = B.length := ⟨_, rfl⟩
  rw [← hN] at KS h64 he hm
  obtain ⟨R, hR⟩ : ∃ R, R = min 2000 (B.length - 48 - e - 2) := ⟨_, rfl⟩
  rw [← hR]
  have hR2 : (if (0 : Int) < (if (N : Int) - 48 - (e : Int) - 2 < 2000 then (N : Int) - 48 - (e : Int) - 2 else 2000) then (if (N : Int) - 48 - (e : Int) - 2 < 2000 then (N : Int) - 48 - (e : Int) - 2 else 2000) else 0) = (R : Int) := by
    rw [hR, ← hN]
    split <;> split <;> omega
  clear hN hR
  go_enter Try.func11, Try.ntmps11
  go_upto_region 4 with (go_at_call 13; refine KL.out.mono ?_; rintro _ w1 ⟨rfl, hE1⟩)
  have KS1 := veil (fun W (h' : Ext w1 W) => KS.out W (hE1.trans h'))
  have c2 := (HJ.out.ext hE1).c2
  have HE1 := veil hE1
  clear hE1 KS KL c3
  refine wp_sched 12 [(true, List.range 12)] (by kernel_rfl) (by kernel_rfl) fun Q' hQ' => ?_
  refine' sched_row (A := _) _ rfl (by kernel_rfl) ?_ ?_
  rotate_left
  · intro D hD hN'
    have e0 := hD.cell c2
    have C1 := veil (fun x : Gw D => hD.callJ KS1.out x)
    simp only [List.range, List.range.loop, pickI, consO, List.getElem?_cons_zero, List.getElem?_cons_succ]
    repeat (go_big_quiet_step (exact C1.out _))
    exact wpq_end
  refine sched_end hQ' fun W4 hE4 => ?_
  go_wp2
  all_goals
    go_ret
    exact ⟨rfl, HE1.out.trans hE4⟩

set_option maxRecDepth 100000 in
set_option maxHeartbeats 4000000 in
theorem records_calls (q g h t e : Nat) (B : List Nat) (h64 : 64 ≤ B.length) (hs : (endJ B).1 ≤ t) (he : e ≤ B.length - 48) (w : World) (hF : Fla w g h B) (hJ : Jou w q g t e) :
    Calls Try.prog 10 #[.pointer (some ⟨q, 0, none⟩)] w fun ev w' => ∃ v l, ev = .returned v ∧ Ext w w' ∧ Tx w' v l ∧ txs l = recsA (seg B 48 e) := by
  have KL := veil (look_same q g h t e B h64 hs w hF hJ)
  have KA := veil (fun W (h' : Ext w W) => area_calls q g h t e e B W (hF.ext h') (hJ.ext h') (by omega))
  have KP := veil (fun (A : Option Addr) W => split_calls A e e (seg B 48 e) (seg_len (by omega)).symm (Nat.le_refl _) (by have := hF.many; omega) W)
  have HJ := veil hJ
  have c3 := hJ.c3
  clear hF hJ hs
  go_enter Try.func10, Try.ntmps10
  go_upto_region 5 with (go_at_call 13; refine KL.out.mono ?_; rintro _ w1 ⟨rfl, hE1⟩)
  have KA1 := veil (KA.out w1 hE1)
  have c2 := (HJ.out.ext hE1).c2
  have HE1 := veil hE1
  clear hE1 KA KL c3
  go_wp2_with (first
    | (go_at_call 18; refine KA1.out.mono ?_; rintro _ w5 ⟨k, rfl, hE5, hk5, hB5⟩; have H5 := veil (HE1.out.trans hE5); have KP5 := veil (KP.out _ w5 hB5); clear hE5 hk5 hB5)
    | (go_at_call 20; refine KP5.out.mono ?_; rintro _ w6 ⟨v, l, rfl, hE6, hT6, hl6⟩))
  go_ret
  exact ⟨v, l, rfl, H5.out.trans hE6, hT6, hl6⟩

/-- The errors of a record that may not be appended. -/
def RefQ (m R : Nat) (x : Value) : Prop := (x = .nilIface ∧ 1 ≤ m ∧ m ≤ 2000 ∧ m ≤ R) ∨ (¬ (1 ≤ m ∧ m ≤ 2000 ∧ m ≤ R) ∧ ∃ y : Int, x = .iface 39 (.int .i64 y))
set_option maxRecDepth 100000 in
set_option maxHeartbeats 4000000 in
theorem refusal_calls (q g h t e : Nat) (B : List Nat) (h64 : 64 ≤ B.length) (hs : (endJ B).1 ≤ t) (he : e ≤ B.length - 48) (w : World) (hF : Fla w g h B) (hJ : Jou w q g t e) (A : Option Addr) (m c : Nat) :
    Calls Try.prog 14 #[.pointer (some ⟨q, 0, none⟩), .slice A m c] w fun ev w' => ∃ x, ev = .returned x ∧ Ext w w' ∧ RefQ m (min 2000 (B.length - 48 - e - 2)) x := by
  have KF := veil (free_calls q g h t e B h64 hs he w hF hJ)
  have c3 := hJ.c3
  clear hF hJ hs
  obtain ⟨R, hR⟩ : ∃ R, R = min 2000 (B.length - 48 - e - 2) := ⟨_, rfl⟩
  rw [← hR] at KF ⊢
  have hR2 : (R : Int) ≤ 2000 := by omega
  clear hR
  go_enter Try.func14, Try.ntmps14
  by_cases a1 : m < 1
  · have d1 : decide ((m : Int) < 1) = true := decide_eq_true (by omega)
    go_wp2
    go_ret
    exact ⟨_, rfl, Ext.refl _, .inr ⟨by omega, _, rfl⟩⟩
  have d1 : decide ((m : Int) < 1) = false := decide_eq_false (by omega)
  by_cases a2 : 2000 < m
  · have d2 : decide ((2000 : Int) < (m : Int)) = true := decide_eq_true (by omega)
    go_wp2
    go_ret
    exact ⟨_, rfl, Ext.refl _, .inr ⟨by omega, _, rfl⟩⟩
  have d2 : decide ((2000 : Int) < (m : Int)) = false := decide_eq_false (by omega)
  by_cases a3 : R < m
  · have d3 : decide ((R : Int) < (m : Int)) = true := decide_eq_true (by omega)
    go_wp2_with (go_at_call 11; refine KF.out.mono ?_; rintro _ w1 ⟨rfl, hE1⟩)
    go_ret
    exact ⟨_, rfl, hE1, .inr ⟨by omega, _, rfl⟩⟩
  have d3 : decide ((R : Int) < (m : Int)) = false := decide_eq_false (by omega)
  go_wp2_with (go_at_call 11; refine KF.out.mono ?_; rintro _ w1 ⟨rfl, hE1⟩)
  go_ret
  exact ⟨_, rfl, hE1, .inl ⟨rfl, by omega, by omega, by omega⟩⟩
end Go.Proofs.Ytoikgkjkcampkaa
