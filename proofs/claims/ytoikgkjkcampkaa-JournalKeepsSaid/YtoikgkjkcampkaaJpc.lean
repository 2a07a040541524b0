/-
  The landed flash: Tear, Write.
-/
import Derived.Test.YtoikgkjkcampkaaJpb
namespace Go.Proofs.Ytoikgkjkcampkaa
open Go.RowKit

theorem putAt_at {B bs : List Nat} {a : Nat} (h : a + bs.length ≤ B.length) (i : Nat) : (putAt B a bs).getD i 0 = if a ≤ i ∧ i < a + bs.length then bs.getD (i - a) 0 else B.getD i 0 := by
  rw [List.getD_eq_getElem?_getD, putAt_get h]
  split
  · rw [List.getD_eq_getElem?_getD]
  · rw [List.getD_eq_getElem?_getD]
theorem Byt.putAt {B bs : List Nat} (h : Byt B) (k : Byt bs) (a : Nat) : Byt (putAt B a bs) := fun x hx => by
  rcases List.mem_append.1 hx with hx | hx
  · exact h x (List.mem_of_mem_take hx)
  · rcases List.mem_append.1 hx with hx | hx
    · exact k x hx
    · exact h x (List.mem_of_mem_drop hx)

set_option maxRecDepth 100000 in
set_option maxHeartbeats 4000000 in
theorem ftear_calls (g z : Nat) (B : List Nat) (a : Nat) (b o m c n : Nat) (bs : List Nat) (hm : m = bs.length) (hmc : m ≤ c) (hin : a + m ≤ B.length) (hn : n ≤ m) (w : World) (hF : Fla w g z B) (hB : Bs w (some ⟨b, o, none⟩) bs) :
    Calls Try.prog 19 #[.pointer (some ⟨g, 0, none⟩), .int .i64 (a : Int), .slice (some ⟨b, o, none⟩) m c, .int .i64 (n : Int)] w fun e w' => e = .returned .nilIface ∧ Chg (fun k => k = z) w w' ∧ Fla w' g z (putAt B a (bs.take n)) := by
  have KH := veil (fhas_calls g z B a m hin w hF)
  have HF := veil hF
  have HB := veil hB
  obtain ⟨N, hN⟩ : ∃ n, n = B.length := ⟨_, rfl⟩
  have hin2 : a + m ≤ N := by omega
  have d1 : decide ((n : Int) < 0) = false := decide_eq_false (by omega)
  have d2 : decide ((m : Int) < (n : Int)) = false := decide_eq_false (by omega)
  have HN := veil (And.intro hN (And.intro hin hm))
  clear hF hB hN hin hm
  go_enter Try.func19, Try.ntmps19
  go_upto_region 3 with (go_at_call 26; refine KH.out.mono ?_; rintro e w1 ⟨rfl, hE1⟩)
  have HF1 := veil (And.intro (HF.out.ext hE1) hE1)
  have c0 := HF1.out.1.c0
  rw [← HN.out.1] at c0
  have hn3 : (n : Int) ≤ (c : Int) := by omega
  have hin3 : (a : Int) ≤ (N : Int) := by omega
  clear hE1 KH
  have kc := fun W : World => cut_from (some ⟨z, 0, none⟩) N N a (by omega) W
  rw [cutA_some] at kc
  generalize hoff : (if N = a then 0 else a) = off at *
  have HO := veil hoff
  clear hoff
  have kd := fun W : World => cut_to_b (some ⟨b, o, none⟩) m c n (by omega) W rfl
  refine wp_sched 9 [(true, [0, 1, 2, 3, 4, 5, 6, 7, 8]), (false, [9])] (by kernel_rfl) (by kernel_rfl) fun Q' hQ' => ?_
  refine' sched_row (A := _) _ rfl (by kernel_rfl) ?_ ?_
  rotate_left
  · intro D hD hN'
    have e0 := hD.cell c0
    simp only [pickI, consO, List.getElem?_cons_zero, List.getElem?_cons_succ]
    iterate 5 (go_big_quiet_step (fail))
    go_big_quiet_want
    refine quiet_val (.slice (some ⟨z, off, none⟩) (N - a) (N - a)) (fun x => run_slice_lJ rfl rfl rfl (kc x.val)) ?_
    simp only [Act.put, List.setIfInBounds_toArray, List.set_cons_zero, List.set_cons_succ]
    go_big_quiet_on
    iterate 2 (go_big_quiet_step (fail))
    go_big_quiet_want
    refine quiet_val (.slice (some ⟨b, o, none⟩) n c) (fun x => run_slice_hv rfl rfl rfl (kd x.val)) ?_
    simp only [Act.put, List.setIfInBounds_toArray, List.set_cons_zero, List.set_cons_succ]
    go_big_quiet_on
    exact wpq_end
  refine sched_one _ rfl rfl fun W hW => ?_
  have HFW := veil (And.intro (HF1.out.1.ext hW) (And.intro (HF1.out.2.trans hW) (HB.out.ext (HF1.out.2.trans hW))))
  refine wp_copyJ _ _ 23 23 rfl 5 Try.underlying23 infoJ1 z _ _ _ _ _ _ rfl rfl 5 B.length _ HFW.out.1.row n (Nat.min_eq_left (by omega)).symm (u8f bs) ?_ ?_ (fun _ _ => rfl) ?_
  · intro j hj
    obtain ⟨b', o', e, _, hc⟩ := HFW.out.2.2.cell (j := j) (by have := HN.out.2.2; omega)
    obtain ⟨rfl, rfl⟩ : b = b' ∧ o = o' := by simpa using e
    rw [Addr.add_mid]
    exact hc
  · have h1 := HN.out.1
    have h2 := HO.out
    split at h2 <;> omega
  intro w3 hb3 hr3
  refine ⟨fun hk => absurd hk (by decide), ?_⟩
  refine sched_end hQ' fun W4 hE4 => ?_
  simp only [Act.put, List.setIfInBounds_toArray, List.set_cons_zero, List.set_cons_succ]
  go_wp2
  go_ret
  have hl : (bs.take n).length = n := by rw [List.length_take]; have := HN.out.2.2; omega
  have hp : a + (bs.take n).length ≤ B.length := by have := HN.out.1; omega
  have hch : Chg (fun k => k = z) w W4 := (((Chg.of_ext (F := fun k => k = z) HFW.out.2.1).trans (Chg.of_but hb3) fun _ _ e => e)).ext hE4
  have hpl := putAt_len hp
  refine ⟨rfl, hch, HF.out.ne, ?_, ?_, HF.out.byt.putAt (HB.out.1.take n) a, by rw [hpl]; exact HF.out.one, by rw [hpl]; exact HF.out.many⟩
  · rw [hpl]
    exact row_chg HF.out.cel hch HF.out.ne
  · rw [hpl]
    refine (row_below hr3 hE4 hr3.lt).congr fun j hj => ?_
    unfold u8f
    rw [putAt_at hp, hl]
    have e1 := HN.out.1
    by_cases c1 : N = a
    · have hn0 : n = 0 := by omega
      have h2 := HO.out
      rw [if_pos c1] at h2
      rw [if_neg (by omega), if_neg (by omega)]
    · have h2 := HO.out
      rw [if_neg c1] at h2
      subst h2
      by_cases c2 : a ≤ j ∧ j < a + n
      · rw [if_pos c2, if_pos c2, List.getD_eq_getElem?_getD, List.getD_eq_getElem?_getD, List.getElem?_take_of_lt (by omega)]
      · rw [if_neg c2, if_neg c2]

set_option maxRecDepth 100000 in
set_option maxHeartbeats 4000000 in
theorem fwrite_calls (g z : Nat) (B : List Nat) (a : Nat) (b o m c : Nat) (bs : List Nat) (hm : m = bs.length) (hmc : m ≤ c) (hin : a + m ≤ B.length) (w : World) (hF : Fla w g z B) (hB : Bs w (some ⟨b, o, none⟩) bs) :
    Calls Try.prog 17 #[.pointer (some ⟨g, 0, none⟩), .int .i64 (a : Int), .slice (some ⟨b, o, none⟩) m c] w fun e w' => e = .returned .nilIface ∧ Chg (fun k => k = z) w w' ∧ Fla w' g z (putAt B a bs) := by
  have KT := veil (ftear_calls g z B a b o m c m bs hm hmc hin (Nat.le_refl _) w hF hB)
  rw [show bs.take m = bs from List.take_of_length_le (by omega)] at KT
  have hmm : m ≤ 1048576 := by have := hF.many; omega
  clear hF hB hin hm
  go_enter Try.func17, Try.ntmps17
  go_wp2_with (go_at_call 19; refine KT.out.mono ?_; rintro e w1 ⟨rfl, hC, hF⟩)
  go_ret
  exact ⟨rfl, hC, hF⟩
end Go.Proofs.Ytoikgkjkcampkaa
