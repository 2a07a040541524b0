/-
  The landed journal: look, what the flash tells taken up.
-/
import Derived.Test.YtoikgkjkcampkaaJpf
namespace Go.Proofs.Ytoikgkjkcampkaa
open Go.RowKit

/-- A slot's cells. -/
def slC (t e : Nat) : Array Value := #[.int .u64 (t : Int), .int .i64 (e : Int)]
theorem slC_one (t e : Nat) : (slC t e).all (·.oneCell') = true := sl_one _ _
theorem hzSl (W : World) : (Instr.alloc 45 true (.tuple #[])).run Try.prog W = .ok (ptrTo W.heap.size) (W.alloc (.cells #[.int .u64 0, .int .i64 0] 45)) := by kernel_rfl
/-- The newer of two. -/
def newer (n s : Nat × Nat) : Nat × Nat := if n.1 < s.1 then s else n
def pickJ (B : List Nat) (n : Nat × Nat) : Nat → Nat × Nat
  | 0 => n
  | i + 1 => newer (pickJ B n i) (slotT B i)
theorem pick_end (B : List Nat) (n : Nat × Nat) : pickJ B n 2 = if n.1 < (endJ B).1 then endJ B else n := by
  show newer (newer n (slotT B 0)) (slotT B 1) = _
  unfold newer endJ
  by_cases h1 : n.1 < (slotT B 0).1
  · rw [if_pos h1]
    by_cases h2 : (slotT B 0).1 < (slotT B 1).1
    · rw [if_pos h2, if_pos (by omega)]
    · rw [if_neg h2, if_pos h1]
  · rw [if_neg h1]
    by_cases h2 : (slotT B 0).1 < (slotT B 1).1
    · rw [if_pos h2]
    · rw [if_neg h2, if_neg h1, if_neg (by omega)]
theorem slot_fits (B : List Nat) (k : Nat) : (slotT B k).2 ≤ B.length - 48 := by
  unfold slotT
  split
  · rename_i h
    exact h.2.2.2
  · exact Nat.zero_le _
theorem end_fits (B : List Nat) : (endJ B).2 ≤ B.length - 48 := by
  unfold endJ
  split <;> exact slot_fits B _
theorem slot_turn (B : List Nat) (k : Nat) : (slotT B k).1 < 4611686018427387904 := by
  unfold slotT
  split
  · rename_i h
    exact h.2.2.1
  · exact Nat.zero_lt_of_lt (by decide : 0 < 4611686018427387904)
theorem slC_row {w : World} {g t e : Nat} (h : w.heap[g]? = some (.cells (slC t e) 45 (0, 0))) : w.cell? ⟨g, 0, none⟩ = some (.int .u64 (t : Int)) ∧ w.cell? ⟨g, 1, none⟩ = some (.int .i64 (e : Int)) := by
  exact ⟨(cell_of_row w g 0 _ _ _ h).trans rfl, (cell_of_row w g 1 _ _ _ h).trans rfl⟩

theorem slC_is {w : World} {g t e : Nat} (h : w.heap[g]? = some (.cells (slC t e) 45 (0, 0))) : w.rowIs g 45 2 (fun j => if j = 0 then .int .u64 (t : Int) else .int .i64 (e : Int)) :=
  ⟨_, h, rfl, fun i hi => by
    obtain rfl | rfl : i = 0 ∨ i = 1 := by omega
    · rfl
    · rfl⟩
theorem slC_set {w : World} {g t e e' : Nat} (h : w.heap[g]? = some (.cells (slC t e) 45 (0, 0))) : (w.setCell ⟨g, 1, none⟩ (.int .i64 (e' : Int))).heap[g]? = some (.cells (slC t e') 45 (0, 0)) := by
  have := (slC_is h).set 1 (.int .i64 (e' : Int))
  have := blkOf this
  rw [this]
  rfl
/-- The record's slot, taken anew. -/
theorem Jou.put {w : World} {q g t e t' e' : Nat} (h : Jou w q g t e) : Jou ((w.setCell ⟨q, 1, none⟩ (.int .u64 (t' : Int))).setCell ⟨q, 2, none⟩ (.int .i64 (e' : Int))) q g t' e' := by
  refine ((World.rowIs.set h 1 (.int .u64 (t' : Int))).set 2 (.int .i64 (e' : Int))).congr fun i hi => ?_
  obtain rfl | rfl | rfl | rfl | rfl : i = 0 ∨ i = 1 ∨ i = 2 ∨ i = 3 ∨ i = 4 := by omega
  all_goals rfl
theorem chg_put {w w' : World} {q : Nat} (h : Chg (fun k => k = q) w w') (a b : Value) : Chg (fun k => k = q) w ((w'.setCell ⟨q, 1, none⟩ a).setCell ⟨q, 2, none⟩ b) :=
  Chg.setCell (p := ⟨q, 2, none⟩) (Chg.setCell (p := ⟨q, 1, none⟩) h (.inl rfl) a) (.inl rfl) b
/-- What look comes to. -/
def LookQ (q g t e : Nat) (B : List Nat) (w w' : World) : Prop := ∃ T E : Nat, Chg (fun k => k = q) w w' ∧ Jou w' q g T E ∧ (T, E) = (if t < (endJ B).1 then ((endJ B).1, (encRs (recsJ B)).length) else (t, e)) ∧ ((endJ B).1 ≤ t → Ext w w')
theorem recsF_le : ∀ (f : Nat) (s : List Nat), (encRs (recsF f s)).length ≤ s.length
  | 0, s => by simp [recsF, encRs]
  | f + 1, [] => Nat.le_refl _
  | f + 1, [_] => by simp [recsF, encRs]
  | f + 1, a :: b :: s => by
    unfold recsF
    split
    · rename_i c
      have h := recsF_le f (s.drop (256 * a + b))
      rw [List.length_drop] at h
      show (encR (s.take (256 * a + b)) ++ encRs (recsF f (s.drop (256 * a + b)))).length ≤ _
      rw [List.length_append, encR_len, List.length_take, List.length_cons, List.length_cons]
      omega
    · exact Nat.zero_le _
theorem recsA_J (B : List Nat) : recsA (seg B 48 (endJ B).2) = recsJ B := rfl

set_option maxRecDepth 100000 in
set_option maxHeartbeats 4000000 in
theorem look_calls (q g h t e : Nat) (B : List Nat) (h64 : 64 ≤ B.length) (w : World) (hF : Fla w g h B) (hJ : Jou w q g t e) :
    Calls Try.prog 13 #[.pointer (some ⟨q, 0, none⟩)] w fun ev w' => ev = .returned (.tuple #[]) ∧ LookQ q g t e B w w' := by
  have KR := veil (fun (i : Nat) (hi : i < 2) W (h' : Ext w W) => jread_calls q g h t e i hi B h64 W (hF.ext h') (hJ.ext h'))
  have HJ := veil hJ
  have HF := veil hF
  have c1 := hJ.c1
  have c2 := hJ.c2
  clear hF hJ
  go_enter Try.func13, Try.ntmps13
  go_upto_region 1 with ((with_reducible refine at_slot 2 ?_); refine wpl_var _ _ rfl rfl rfl rfl rfl rfl (cells := slC t e) hzSl (fun _ => rfl) (fun _ => rfl) iSl rfl (slC_one _ _) ?_; intro gn w1 hgn hb1 hE1; simp only [Act.put, List.setIfInBounds_toArray, List.set_cons_zero, List.set_cons_succ, ptrTo])
  have HN := veil hgn
  have H1 := veil (And.intro hb1 hE1)
  clear hgn hb1 hE1 c1 c2
  go_wp2
  go_loopw [9] (fun v9 wr => ∃ (i : Nat) (n : Nat × Nat), i ≤ 2 ∧ v9 = .int .i64 (i : Int) ∧ n = pickJ B (t, e) i ∧ wr.heap[gn]? = some (.cells (slC n.1 n.2) 45 (0, 0)) ∧ Ext w wr)
    (fun v _ => 2 - (intOf v).toNat)
  case atStart => exact ⟨0, (t, e), by omega, rfl, rfl, H1.out.1, H1.out.2⟩
  case round =>
    clear H1
    obtain ⟨i, n, hi, rfl, hn, hb, hE⟩ := hrel
    have HB := veil (And.intro hn (And.intro hb hE))
    clear hn hb hE
    by_cases hlt : i < 2
    · have hi2 : (i : Int) < 2 := by omega
      have KR1 := veil (KR.out i hlt)
      go_upto_region 5 with (first
        | (go_at_call 22; refine (KR1.out _ HB.out.2.2).mono ?_; rintro _ w2 ⟨E, rfl, hE2, hE3⟩)
        | ((with_reducible refine at_slot 4 ?_); refine wpl_var _ _ rfl rfl rfl rfl rfl rfl (cells := slC (slotT B i).1 E) hzSl (fun _ => rfl) (fun _ => rfl) iSl rfl (slC_one _ _) ?_; intro gs w3 hgs hb3 hE4; simp only [Act.put, List.setIfInBounds_toArray, List.set_cons_zero, List.set_cons_succ, ptrTo]))
      have hn3 := (hE2.trans hE4).block HB.out.2.1
      have hn0 := slC_row hn3
      have hs0 := slC_row hb3
      have cn := hn0.1
      have cs := hs0.1
      have cs1 := hs0.2
      have H3 := veil (And.intro hn3 (And.intro (HB.out.2.2.trans (hE2.trans hE4)) (And.intro hE3 (show pickJ B (t, e) (i + 1) = newer n (slotT B i) by rw [HB.out.1]; rfl))))
      clear hn3 hn0 hs0 hE2 hE3 hE4 hb3 KR1 hgs
      have hst := slot_turn B i
      generalize slotT B i = s0 at *
      by_cases a : n.1 < s0.1
      · have d1 : decide ((n.1 : Int) < (s0.1 : Int)) = true := decide_eq_true (by omega)
        go_wp2_with ((with_reducible refine at_none ?_); refine wpl_store _ rfl rfl rfl rfl (cells := slC s0.1 E) rfl H3.out.1 iSl rfl (slC_one _ _) ?_; intro w5 hb5 hg5)
        go_roundw
        case rel =>
          refine ⟨i + 1, s0, by omega, by go_num, ?_, ?_, (Chg.of_but hb5).new H3.out.2.1 fun z hz e => by have := HN.out; omega⟩
          · rw [H3.out.2.2.2]
            unfold newer
            rw [if_pos a]
          · rw [← H3.out.2.2.1 (by omega)]
            exact hg5
        case measure => simp [intOf]; omega
      · have d1 : decide ((n.1 : Int) < (s0.1 : Int)) = false := decide_eq_false (by omega)
        go_wp2
        go_roundw
        case rel =>
          refine ⟨i + 1, n, by omega, by go_num, ?_, H3.out.1, H3.out.2.1⟩
          rw [H3.out.2.2.2]
          unfold newer
          rw [if_neg a]
        case measure => simp [intOf]; omega
    · obtain rfl : i = 2 := by omega
      clear KR hlt hi
      have hp := HB.out.1
      rw [pick_end] at hp
      have HP := veil hp
      clear hp
      go_upto_region 8 with (fail)
      have hn0 := slC_row HB.out.2.1
      have cn := hn0.1
      have cn1 := hn0.2
      have cq := (HJ.out.ext HB.out.2.2).c1
      clear hn0
      refine wp_sched 8 [(true, List.range 8)] (by kernel_rfl) (by kernel_rfl) fun Q' hQ' => ?_
      refine' sched_row (A := _) _ rfl (by kernel_rfl) ?_ ?_
      rotate_left
      · intro D hD hN'
        have e0 := hD.cell cn
        have e1 := hD.cell cq
        simp only [List.range, List.range.loop, pickI, consO, List.getElem?_cons_zero, List.getElem?_cons_succ]
        repeat (go_big_quiet_step (fail))
        exact wpq_end
      refine sched_end hQ' fun W4 hE4 => ?_
      have H4 := veil (And.intro (HB.out.2.2.trans hE4) (hE4.block HB.out.2.1))
      clear hE4 cn cn1 cq
      by_cases a : t < n.1
      · have d1 : decide ((t : Int) < (n.1 : Int)) = true := decide_eq_true (by omega)
        have hn : n = endJ B := by
          have h := HP.out
          split at h
          · exact h
          · rw [h] at a; exact absurd a (Nat.lt_irrefl _)
        have hfit := end_fits B
        rw [← hn] at hfit
        have hlen : n.2 ≤ 1048576 := by have := HF.out.many; omega
        have hsl := seg_len (B := B) (a := 48) (n := n.2) (by omega)
        have hsp : recsA (seg B 48 n.2) = recsJ B := by rw [hn]; exact recsA_J B
        have KA := veil (area_calls q g h t e n.2 B W4 (HF.out.ext H4.out.1) (HJ.out.ext H4.out.1) (by omega))
        have KP := veil (fun (A : Option Addr) W => split_calls A n.2 n.2 (seg B 48 n.2) hsl.symm (Nat.le_refl _) hlen W)
        rw [hsp] at KP
        generalize hEE : (encRs (recsJ B)).length = E at *
        have HE := veil hEE
        have HNE := veil (And.intro hn hlen)
        clear hEE hn hfit hsl hsp hlen
        have cy := (slC_row H4.out.2).2
        go_upto_region 10 with (first
          | (go_at_call 18; refine KA.out.mono ?_; rintro _ w5 ⟨k, rfl, hE5, hk5, hB5⟩; have H5 := veil (And.intro (H4.out.1.trans hE5) (hE5.block H4.out.2)); have KP5 := veil (KP.out _ w5 hB5); clear hE5 hk5 hB5)
          | (go_at_call 20; refine KP5.out.mono ?_; rintro _ w6 ⟨v, l, rfl, hE6, hT6, hl6⟩; have H6 := veil (And.intro (H5.out.1.trans hE6) (hE6.block H5.out.2)); have cz := (slC_row H6.out.2).2; have fz := World.rowIs.frozen (slC_is H6.out.2) 1; clear hE6 hT6 hl6))
        have hgq : gn ≠ q := fun e => by
          have h1 := HN.out
          have h2 := World.rowIs.lt HJ.out
          omega
        have hb7 := slC_set (e' := E) H6.out.2
        have hE7 : Ext w (w6.setCell ⟨gn, 1, none⟩ (.int .i64 (E : Int))) := (Chg.setCell (F := fun k => k = gn) (Chg.of_ext (Ext.refl w6)) (.inl rfl) _).new H6.out.1 fun z hz e => by have := HN.out; omega
        generalize w6.setCell ⟨gn, 1, none⟩ (.int .i64 (E : Int)) = w7 at *
        have H7 := veil (And.intro hE7 hb7)
        have cz := slC_row hb7
        have c0 := cz.1
        have c1 := cz.2
        have hJ7 := HJ.out.ext hE7
        have cq1 := hJ7.c1
        have cq2 := hJ7.c2
        have fq1 := World.rowIs.frozen hJ7 1
        have fq2 := World.rowIs.frozen hJ7 2
        clear cz hJ7 hE7 hb7 cy
        go_wp2
        refine bodyPost_end (results_none rfl _ _ _) rfl ⟨rfl, n.1, E, chg_put (Chg.of_ext H7.out.1) _ _, (HJ.out.ext H7.out.1).put, ?_, fun c => absurd c ?_⟩
        · rw [if_pos (by rw [← HNE.out.1]; exact a), HE.out, ← HNE.out.1]
        · rw [← HNE.out.1]
          exact Nat.not_le_of_gt a
      · have d1 : decide ((t : Int) < (n.1 : Int)) = false := decide_eq_false (by omega)
        have hfin : (t, e) = (if t < (endJ B).1 then ((endJ B).1, (encRs (recsJ B)).length) else (t, e)) := by
          rw [if_neg fun c => a (by rw [HP.out, if_pos c]; exact c)]
        have HFN := veil hfin
        clear hfin
        go_wp2
        exact bodyPost_end (results_none rfl _ _ _) rfl ⟨rfl, t, e, Chg.of_ext H4.out.1, HJ.out.ext H4.out.1, HFN.out, fun _ => H4.out.1⟩
end Go.Proofs.Ytoikgkjkcampkaa
