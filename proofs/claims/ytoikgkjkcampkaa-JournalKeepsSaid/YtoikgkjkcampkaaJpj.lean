/-
  The landed journal: writes.
-/
import Derived.Test.YtoikgkjkcampkaaJpi
import Derived.Test.YtoikgkjkcampkaaTre
namespace Go.Proofs.Ytoikgkjkcampkaa
open Go.RowKit

/-- The cells of the two writes. -/
def wrC (a1 : Int) (v1 : Value) (a2 : Int) (v2 : Value) : Array Value := #[.int .i64 a1, v1, .int .i64 a2, v2]
theorem wr_one (a1 a2 : Int) (A1 A2 : Option Addr) (n1 c1 n2 c2 : Nat) : (wrC a1 (.slice A1 n1 c1) a2 (.slice A2 n2 c2)).all (·.oneCell') = true := by simp [wrC, Value.oneCell']
/-- A slice of texts, just laid. -/
theorem vs_rowJ {w : World} {g t : Nat} {C : Array Value} {fr : Nat × Nat} {l : List (List Nat)} {c : Nat} (hg : w.heap[g]? = some (.cells C t fr)) (hc : l.length ≤ c)
    (h : ∀ i, i < l.length → ∃ A c', C[i]? = some (.slice A (l.getD i []).length c') ∧ (l.getD i []).length ≤ c' ∧ Bs w A (l.getD i [])) : Vs w (.slice (some ⟨g, 0, none⟩) l.length c) l := by
  refine ⟨fun x hx => ?_, _, c, rfl, hc, .inr ⟨g, 0, rfl, (Array.getElem?_eq_some_iff.1 hg).1, fun i hi => ?_⟩⟩
  · obtain ⟨i, hi, e⟩ := List.mem_iff_getElem.1 hx
    obtain ⟨A, c', _, _, hB⟩ := h i hi
    have : l.getD i [] = x := by simp [List.getD_eq_getElem?_getD, hi, e]
    rw [← this]
    exact hB.1
  · obtain ⟨A, c', h1, h2, h3⟩ := h i hi
    exact ⟨A, c', by rw [Nat.zero_add, cell_of_row w g i C t fr hg]; exact h1, h2, h3⟩
/-- What Concat answers of texts of n bytes in all. -/
def CatV (w : World) (bs : List Nat) (v : Value) (W : World) : Prop := ∃ b o c, v = .slice (some ⟨b, o, none⟩) bs.length c ∧ bs.length ≤ c ∧ Bs W (some ⟨b, o, none⟩) bs ∧ w.heap.size ≤ b
theorem cat_calls {w W : World} {v : Value} {l : List (List Nat)} {bs : List Nat} (hl : l.flatten = bs) (hn : l.length ≤ 64) (h0 : 0 < bs.length) (h1 : bs.length ≤ 1048576) (hE : Ext w W) (hV : Vs W v l) :
    Calls Try.prog 24 #[v] W fun e w' => ∃ v, e = .returned v ∧ Ext W w' ∧ CatV w bs v w' := by
  subst hl
  refine (concatB_calls v l hn h0 h1 W hV).mono fun e w' ⟨A, c, he, hc, hB, hF, hE2⟩ => ?_
  obtain ⟨b, o, rfl, hb, -⟩ := hB.cell (j := 0) h0
  exact ⟨_, he, hE2, b, o, c, rfl, hc, hB, Nat.le_trans (Below.size hE) (hF.resolve_left (by omega) b o rfl)⟩
theorem CatV.ext {w W W' : World} {bs : List Nat} {v : Value} (h : CatV w bs v W) (k : Ext W W') : CatV w bs v W' := by
  obtain ⟨b, o, c, e, hc, hB, hf⟩ := h
  exact ⟨b, o, c, e, hc, hB.ext k, hf⟩
/-- A row stored into a block that holds no bytes. -/
theorem CatV.row {w W : World} {bs : List Nat} {v : Value} {g t : Nat} {zs : Array Value} (h : CatV w bs v W) (hn : 0 < bs.length) (hb : W.heap[g]? = some (.cells zs t (0, 0))) (hz : ∀ (x : Int) (j : Nat), zs[j]? ≠ some (.int .u8 x)) (C : Array Value) : CatV w bs v (W.setRow g C) := by
  obtain ⟨b, o, c, e, hc, hB, hf⟩ := h
  have hne : b ≠ g := fun e => by
    obtain ⟨b', o', e1, _, h1⟩ := hB.cell (j := 0) hn
    obtain ⟨rfl, rfl⟩ : b = b' ∧ o = o' := by simpa using e1
    subst e
    rw [cell_of_row W b _ _ _ _ hb] at h1
    exact hz _ _ h1
  exact ⟨b, o, c, e, hc, hB.chg (Chg.of_but (but_setRow (But.refl g W) C)) hne, hf⟩
theorem wr_no : ∀ (x : Int) (j : Nat), (wrC 0 (.slice none 0 0) 0 (.slice none 0 0))[j]? ≠ some (.int .u8 x) := fun x j => by
  unfold wrC
  match j with
  | 0 | 1 | 2 | 3 => simp
  | j + 4 => simp
/-- What number answers. -/
def NumJ (U : Nat) (v : Value) (W : World) : Prop := ∃ k, v = .slice (some ⟨k, 0, none⟩) 8 8 ∧ Bs W (some ⟨k, 0, none⟩) (to8 U)
theorem numJ_calls (U : Nat) (W : World) : Calls Try.prog 23 #[.int .u64 (U : Int)] W fun e w' => ∃ v, e = .returned v ∧ Ext W w' ∧ NumJ U v w' :=
  (jnum_calls U W).mono fun _ _ ⟨k, he, hE, _, hB⟩ => ⟨_, he, hE, k, rfl, hB⟩
theorem iWr (a1 a2 : Int) (v1 v2 : Value) : (Try.prog.info? 51).map (·.size) = some (wrC a1 v1 a2 v2).size := by kernel_rfl

set_option maxRecDepth 100000 in
set_option maxHeartbeats 4000000 in
theorem writes_calls (q g t e t' e' : Nat) (ht : t' < 9223372036854775808) (he' : e' < 9223372036854775808) (he : e ≤ 1048576) (w : World) (hJ : Jou w q g t e) (A : Option Addr) (m c : Nat) (bs : List Nat) (hm : m = bs.length) (hmc : m ≤ c) (_h1 : 1 ≤ m) (h2 : m ≤ 2000) (hB : Bs w A bs) :
    Calls Try.prog 16 #[.pointer (some ⟨q, 0, none⟩), .slice A m c, .agg (slC t' e')] w fun ev w' => ∃ v1 v2, ev = .returned (.agg (wrC (48 + (e : Int)) v1 (((24 * (t' % 2) : Nat) : Int)) v2)) ∧ Ext w w' ∧ CatV w (encR bs) v1 w' ∧ CatV w (slotB t' e') v2 w' := by
  have HJ := veil hJ
  have HB := veil (And.intro hB (And.intro hm hmc))
  have ht2 : (t' : Int) ≤ 9223372036854775807 := by omega
  have he3 : (e' : Int) ≤ 9223372036854775807 := by omega
  have he2 : (e : Int) ≤ 1048576 := by omega
  have hm2 : (m : Int) ≤ 2000 := by omega
  clear hJ hB hm
  unfold slC
  go_enter Try.func16, Try.ntmps16
  go_upto_region 1 with (fail)
  have hEa := Ext.alloc w (.cells #[.int .u64 (t' : Int), .int .i64 (e' : Int)] 45)
  have hba := heap_new w (.cells (slC t' e') 45)
  obtain ⟨gb, hgb⟩ : ∃ k, k = w.heap.size := ⟨_, rfl⟩
  have hs1 : (w.alloc (.cells #[.int .u64 (t' : Int), .int .i64 (e' : Int)] 45)).heap.size = w.heap.size + 1 := by simp
  unfold slC at hba
  generalize w.alloc (.cells #[.int .u64 (t' : Int), .int .i64 (e' : Int)] 45) = Wa at *
  rw [← hs1]
  have hEb := Ext.alloc Wa (.cells (wrC 0 (.slice none 0 0) 0 (.slice none 0 0)) 51)
  have hbb := heap_new Wa (.cells (wrC 0 (.slice none 0 0) 0 (.slice none 0 0)) 51)
  unfold wrC at hEb hbb
  obtain ⟨gr, hgr⟩ : ∃ k, k = Wa.heap.size := ⟨_, rfl⟩
  generalize Wa.alloc (.cells #[.int .i64 0, .slice none 0 0, .int .i64 0, .slice none 0 0] 51) = Wb at *
  rw [← hgb] at hba ⊢
  rw [← hgr] at hbb ⊢
  have H1 := veil (show Ext w Wb ∧ Wb.heap[gb]? = some (.cells (slC t' e') 45 (0, 0)) ∧ Wb.heap[gr]? = some (.cells (wrC 0 (.slice none 0 0) 0 (.slice none 0 0)) 51 (0, 0)) ∧ w.heap.size ≤ gr from ⟨hEa.trans hEb, hEb.block hba, hbb, by omega⟩)
  clear hEa hba hs1 hEb hbb hgb hgr
  go_upto_region 2 with (fail)
  obtain ⟨gl, hgl⟩ : ∃ k, k = Wb.heap.size := ⟨_, rfl⟩
  rw [← hgl]
  have hEc := Ext.alloc Wb (.cells #[.int .u8 ((m : Int) / 256), .int .u8 ((m : Int) % 256)] 5)
  have hln : Bs (Wb.alloc (.cells #[.int .u8 ((m : Int) / 256), .int .u8 ((m : Int) % 256)] 5)) (some ⟨gl, 0, none⟩) [m / 256, m % 256] := by
    have hb := heap_new Wb (.cells #[.int .u8 ((m : Int) / 256), .int .u8 ((m : Int) % 256)] 5)
    rw [← hgl] at hb
    refine ⟨fun x hx => ?_, .inr ⟨gl, 0, rfl, (Array.getElem?_eq_some_iff.1 hb).1, fun j hj => ?_⟩⟩
    · simp only [List.mem_cons, List.not_mem_nil, or_false] at hx
      omega
    · rw [cell_of_row _ gl (0 + j) _ _ _ hb]
      simp only [List.length_cons, List.length_nil] at hj
      obtain rfl | rfl : j = 0 ∨ j = 1 := by omega
      · rfl
      · rfl
  generalize Wb.alloc (.cells #[.int .u8 ((m : Int) / 256), .int .u8 ((m : Int) % 256)] 5) = Wc at *
  have H2 := veil (And.intro (H1.out.1.trans hEc) (And.intro (hEc.block H1.out.2.1) (And.intro (hEc.block H1.out.2.2.1) hln)))
  clear hEc hln hgl
  have cb0 := (slC_row H2.out.2.1).1
  have cb1 := (slC_row H2.out.2.1).2
  refine wp_sched 9 [(true, [0, 1, 3, 4, 5]), (false, [2]), (false, [6]), (true, [7, 8])] (by kernel_rfl) (by kernel_rfl) fun Q' hQ' => ?_
  refine' sched_row (A := _) _ rfl (by kernel_rfl) ?_ ?_
  rotate_left
  · intro D hD hN'
    have e0 := hD.cell cb0
    have e1 := hD.cell cb1
    simp only [pickI, consO, List.getElem?_cons_zero, List.getElem?_cons_succ]
    repeat (go_big_quiet_step (fail))
    exact wpq_end
  refine sched_fun (R := NumJ t') _ rfl rfl rfl rfl rfl (enter_in Try.func23 rfl rfl _) (fun W _ => numJ_calls t' W) ?_
  rintro _ W2 hE2 ⟨k1, rfl, hk1⟩
  simp only [Act.put, List.setIfInBounds_toArray, List.set_cons_zero, List.set_cons_succ]
  refine sched_fun (R := NumJ e') _ rfl rfl rfl rfl rfl (enter_in Try.func23 rfl rfl _) (fun W _ => numJ_calls e' W) ?_
  rintro _ W3 hE3 ⟨k2, rfl, hk2⟩
  simp only [Act.put, List.setIfInBounds_toArray, List.set_cons_zero, List.set_cons_succ]
  refine' sched_row (A := _) _ rfl (by kernel_rfl) ?_ ?_
  rotate_left
  · intro D hD hN'
    simp only [pickI, consO, List.getElem?_cons_zero, List.getElem?_cons_succ]
    repeat (go_big_quiet_step (fail))
    exact wpq_end
  refine sched_end hQ' fun Wd hE4 => ?_
  have hx := hE2.trans (hE3.trans hE4)
  have H3 := veil (And.intro (H2.out.1.trans hx) (And.intro (hx.block H2.out.2.1) (And.intro (hx.block H2.out.2.2.1) (And.intro (H2.out.2.2.2.ext hx) (And.intro (hk1.ext (hE3.trans hE4)) (And.intro (hk2.ext hE4) H1.out.2.2.2))))))
  clear hx hE2 hE3 hE4 hk1 hk2 cb0 cb1 H2 H1
  go_upto_region 3 with (fail)
  have c2 := (HJ.out.ext H3.out.1).c2
  have cb0 := (slC_row H3.out.2.1).1
  have hl9 : 0 < (encR bs).length ∧ (encR bs).length ≤ 1048576 := by rw [encR_len, ← HB.out.2.1]; omega
  have hfl : [[m / 256, m % 256], bs].flatten = encR bs := by rw [HB.out.2.1]; simp [encR]
  have mk8 := veil (fun (g : Nat) (W : World) (hx : Ext Wd W) (hg : W.heap[g]? = some (.cells #[.slice (some ⟨gl, 0, none⟩) 2 2, .slice A m c] 23 (0, 0))) => show Vs W (.slice (some ⟨g, 0, none⟩) 2 2) [[m / 256, m % 256], bs] from vs_rowJ (l := [[m / 256, m % 256], bs]) hg (Nat.le_refl _) fun i hi => by
    match i, hi with
    | 0, _ => exact ⟨_, 2, rfl, Nat.le_refl _, H3.out.2.2.2.1.ext hx⟩
    | 1, _ => exact ⟨A, c, by show some (Value.slice A m c) = some (.slice A bs.length c); rw [HB.out.2.1], by show bs.length ≤ c; rw [← HB.out.2.1]; exact HB.out.2.2, HB.out.1.ext (H3.out.1.trans hx)⟩)
  have mk19 := veil (fun (g : Nat) (W : World) (hx : Ext Wd W) (hg : W.heap[g]? = some (.cells #[.slice (some ⟨k1, 0, none⟩) 8 8, .slice (some ⟨k2, 0, none⟩) 8 8, .slice (some ⟨k1, 0, none⟩) 8 8] 23 (0, 0))) => show Vs W (.slice (some ⟨g, 0, none⟩) 3 3) [to8 t', to8 e', to8 t'] from vs_rowJ (l := [to8 t', to8 e', to8 t']) hg (Nat.le_refl _) fun i hi => by
    match i, hi with
    | 0, _ => exact ⟨_, 8, rfl, Nat.le_refl _, H3.out.2.2.2.2.1.ext hx⟩
    | 1, _ => exact ⟨_, 8, rfl, Nat.le_refl _, H3.out.2.2.2.2.2.1.ext hx⟩
    | 2, _ => exact ⟨_, 8, rfl, Nat.le_refl _, H3.out.2.2.2.2.1.ext hx⟩)
  have hx := Ext.refl Wd
  refine wp_tree 23 (.row [0, 1, 2, 3, 4, 5, 6, 7, 11, 12, 13, 14, 15, 16, 17, 18] (.two 8 (.two 9 (.row [10] (.one 19 (.one 20 (.row [21, 22] (.one 23 .fin))))) 19 (.one 9 (.row [10] (.one 20 (.row [21, 22] (.one 23 .fin)))))) 19 (.one 8 (.one 9 (.row [10] (.one 20 (.row [21, 22] (.one 23 .fin)))))))) (by kernel_rfl) (by kernel_rfl) fun Q' hQ' => ?_
  refine' tree_row (A := _) _ rfl (by kernel_rfl) ?_ ?_
  rotate_left
  · intro D hD hN'
    have e0 := hD.cell c2
    have e1 := hD.cell cb0
    simp only [pickI, consO, List.getElem?_cons_zero, List.getElem?_cons_succ]
    repeat (go_big_quiet_step (fail))
    exact wpq_end
  clear c2 cb0
  refine ⟨?_, ?_⟩
  · skip
    refine step_build (vs := [(0, .slice (some ⟨gl, 0, none⟩) 2 2), (1, .slice A m c)]) (C := #[.slice (some ⟨gl, 0, none⟩) 2 2, .slice A m c]) (e := 23) _ rfl rfl rfl rfl rfl (fun W => by simp [Instr.buildSlice, go_sem]) ?_
    intro g5 W _ hg hE
    simp only [Act.put, List.setIfInBounds_toArray, List.set_cons_zero, List.set_cons_succ]
    have hx := hx.trans hE
    have K8 := veil (mk8.out g5 W hx hg)
    clear hg
    clear hE
    refine ⟨?_, ?_⟩
    · skip
      refine step_fun (V := CatV w (encR bs)) _ rfl rfl rfl rfl rfl (enter_in Try.func24 rfl rfl _) (fun W hW => cat_calls hfl (by simp) hl9.1 hl9.2 (H3.out.1.trans (hx.trans hW)) (K8.out.ext hW)) ?_
      rintro _ W hE ⟨b1, o1, d1, rfl, hd1, hB1, hf1⟩
      simp only [Act.put, List.setIfInBounds_toArray, List.set_cons_zero, List.set_cons_succ]
      have hx := hx.trans hE
      have K9 := veil (show CatV w (encR bs) (.slice (some ⟨b1, o1, none⟩) (encR bs).length d1) W from ⟨b1, o1, d1, rfl, hd1, hB1, hf1⟩)
      clear hd1 hB1 hf1 K8
      clear hE
      refine' tree_row (A := _) _ rfl (by kernel_rfl) ?_ ?_
      rotate_left
      · intro D hD hN'
        simp only [pickI, consO, List.getElem?_cons_zero, List.getElem?_cons_succ]
        repeat (go_big_quiet_step (fail))
        exact wpq_end
      refine step_build (vs := [(0, .slice (some ⟨k1, 0, none⟩) 8 8), (1, .slice (some ⟨k2, 0, none⟩) 8 8), (2, .slice (some ⟨k1, 0, none⟩) 8 8)]) (C := #[.slice (some ⟨k1, 0, none⟩) 8 8, .slice (some ⟨k2, 0, none⟩) 8 8, .slice (some ⟨k1, 0, none⟩) 8 8]) (e := 23) _ rfl rfl rfl rfl rfl (fun W => by simp [Instr.buildSlice, go_sem]) ?_
      intro g7 W _ hg hE
      simp only [Act.put, List.setIfInBounds_toArray, List.set_cons_zero, List.set_cons_succ]
      have K9 := veil (K9.out.ext hE)
      have hx := hx.trans hE
      have K19 := veil (mk19.out g7 W hx hg)
      clear hg
      clear hE
      refine step_fun (V := CatV w (slotB t' e')) _ rfl rfl rfl rfl rfl (enter_in Try.func24 rfl rfl _) (fun W hW => cat_calls (l := [to8 t', to8 e', to8 t']) rfl (by simp) (by rw [slotB_len]; omega) (by rw [slotB_len]; omega) (H3.out.1.trans (hx.trans hW)) (K19.out.ext hW)) ?_
      rintro _ W hE ⟨b2, o2, d2, rfl, hd2, hB2, hf2⟩
      simp only [Act.put, List.setIfInBounds_toArray, List.set_cons_zero, List.set_cons_succ]
      have K9 := veil (K9.out.ext hE)
      have hx := hx.trans hE
      have K20 := veil (show CatV w (slotB t' e') (.slice (some ⟨b2, o2, none⟩) (slotB t' e').length d2) W from ⟨b2, o2, d2, rfl, hd2, hB2, hf2⟩)
      clear hd2 hB2 hf2 K19
      clear hE
      refine' tree_row (A := _) _ rfl (by kernel_rfl) ?_ ?_
      rotate_left
      · intro D hD hN'
        simp only [pickI, consO, List.getElem?_cons_zero, List.getElem?_cons_succ]
        repeat (go_big_quiet_step (fail))
        exact wpq_end
      refine step_one _ rfl rfl fun W hW => ?_
      have hx := hx.trans hW
      refine wp_store_row 51 _ _ rfl gr (wrC (48 + (e : Int)) (.slice (some ⟨b1, o1, none⟩) (encR bs).length d1) ((t' : Int) % 2 * 24) (.slice (some ⟨b2, o2, none⟩) (slotB t' e').length d2)) rfl rfl 51 _ (hx.block H3.out.2.2.1) (iWr _ _ _ _) rfl (wr_one _ _ _ _ _ _ _ _) ⟨fun hk => absurd hk (by decide), ?_⟩
      refine tree_end hQ' fun W4 hE4 => ?_
      simp only [Act.put]
      obtain ⟨C, hC⟩ : ∃ C, C = wrC (48 + (e : Int)) (.slice (some ⟨b1, o1, none⟩) (encR bs).length d1) ((t' : Int) % 2 * 24) (.slice (some ⟨b2, o2, none⟩) (slotB t' e').length d2) := ⟨_, rfl⟩
      rw [← hC] at hE4
      have hk9 := (K9.out.ext hW).row hl9.1 (hx.block H3.out.2.2.1) wr_no C
      have hk20 := (K20.out.ext hW).row (by rw [slotB_len]; decide) (hx.block H3.out.2.2.1) wr_no C
      have hb4 := hE4.block (setRow_heap W gr _ C 51 (0, 0) (hx.block H3.out.2.2.1))
      have hx4 : Ext w W4 := ((Chg.of_but (but_setRow (But.refl gr W) C)).new (H3.out.1.trans hx) fun z hz e => by have := H3.out.2.2.2.2.2.2; omega).trans hE4
      have HB := veil (And.intro hb4 (And.intro hx4 (And.intro (hk9.ext hE4) (hk20.ext hE4))))
      have HC := veil hC
      clear hb4 hx4 hE4 hk9 hk20 hC
      go_wp2
      refine bodyPost_ret (results_cell_row rfl _ _ gr 51 C (0, 0) _ rfl HB.out.1 Try.underlying51 rfl (by rw [HC.out]; exact iWr _ _ _ _)) rfl ⟨_, _, ?_, HB.out.2.1, HB.out.2.2.1, HB.out.2.2.2⟩
      rw [HC.out, show ((24 * (t' % 2) : Nat) : Int) = (t' : Int) % 2 * 24 by omega]
    · skip
      refine step_build (vs := [(0, .slice (some ⟨k1, 0, none⟩) 8 8), (1, .slice (some ⟨k2, 0, none⟩) 8 8), (2, .slice (some ⟨k1, 0, none⟩) 8 8)]) (C := #[.slice (some ⟨k1, 0, none⟩) 8 8, .slice (some ⟨k2, 0, none⟩) 8 8, .slice (some ⟨k1, 0, none⟩) 8 8]) (e := 23) _ rfl rfl rfl rfl rfl (fun W => by simp [Instr.buildSlice, go_sem]) ?_
      intro g7 W _ hg hE
      simp only [Act.put, List.setIfInBounds_toArray, List.set_cons_zero, List.set_cons_succ]
      have K8 := veil (K8.out.ext hE)
      have hx := hx.trans hE
      have K19 := veil (mk19.out g7 W hx hg)
      clear hg
      clear hE
      refine step_fun (V := CatV w (encR bs)) _ rfl rfl rfl rfl rfl (enter_in Try.func24 rfl rfl _) (fun W hW => cat_calls hfl (by simp) hl9.1 hl9.2 (H3.out.1.trans (hx.trans hW)) (K8.out.ext hW)) ?_
      rintro _ W hE ⟨b1, o1, d1, rfl, hd1, hB1, hf1⟩
      simp only [Act.put, List.setIfInBounds_toArray, List.set_cons_zero, List.set_cons_succ]
      have K19 := veil (K19.out.ext hE)
      have hx := hx.trans hE
      have K9 := veil (show CatV w (encR bs) (.slice (some ⟨b1, o1, none⟩) (encR bs).length d1) W from ⟨b1, o1, d1, rfl, hd1, hB1, hf1⟩)
      clear hd1 hB1 hf1 K8
      clear hE
      refine' tree_row (A := _) _ rfl (by kernel_rfl) ?_ ?_
      rotate_left
      · intro D hD hN'
        simp only [pickI, consO, List.getElem?_cons_zero, List.getElem?_cons_succ]
        repeat (go_big_quiet_step (fail))
        exact wpq_end
      refine step_fun (V := CatV w (slotB t' e')) _ rfl rfl rfl rfl rfl (enter_in Try.func24 rfl rfl _) (fun W hW => cat_calls (l := [to8 t', to8 e', to8 t']) rfl (by simp) (by rw [slotB_len]; omega) (by rw [slotB_len]; omega) (H3.out.1.trans (hx.trans hW)) (K19.out.ext hW)) ?_
      rintro _ W hE ⟨b2, o2, d2, rfl, hd2, hB2, hf2⟩
      simp only [Act.put, List.setIfInBounds_toArray, List.set_cons_zero, List.set_cons_succ]
      have K9 := veil (K9.out.ext hE)
      have hx := hx.trans hE
      have K20 := veil (show CatV w (slotB t' e') (.slice (some ⟨b2, o2, none⟩) (slotB t' e').length d2) W from ⟨b2, o2, d2, rfl, hd2, hB2, hf2⟩)
      clear hd2 hB2 hf2 K19
      clear hE
      refine' tree_row (A := _) _ rfl (by kernel_rfl) ?_ ?_
      rotate_left
      · intro D hD hN'
        simp only [pickI, consO, List.getElem?_cons_zero, List.getElem?_cons_succ]
        repeat (go_big_quiet_step (fail))
        exact wpq_end
      refine step_one _ rfl rfl fun W hW => ?_
      have hx := hx.trans hW
      refine wp_store_row 51 _ _ rfl gr (wrC (48 + (e : Int)) (.slice (some ⟨b1, o1, none⟩) (encR bs).length d1) ((t' : Int) % 2 * 24) (.slice (some ⟨b2, o2, none⟩) (slotB t' e').length d2)) rfl rfl 51 _ (hx.block H3.out.2.2.1) (iWr _ _ _ _) rfl (wr_one _ _ _ _ _ _ _ _) ⟨fun hk => absurd hk (by decide), ?_⟩
      refine tree_end hQ' fun W4 hE4 => ?_
      simp only [Act.put]
      obtain ⟨C, hC⟩ : ∃ C, C = wrC (48 + (e : Int)) (.slice (some ⟨b1, o1, none⟩) (encR bs).length d1) ((t' : Int) % 2 * 24) (.slice (some ⟨b2, o2, none⟩) (slotB t' e').length d2) := ⟨_, rfl⟩
      rw [← hC] at hE4
      have hk9 := (K9.out.ext hW).row hl9.1 (hx.block H3.out.2.2.1) wr_no C
      have hk20 := (K20.out.ext hW).row (by rw [slotB_len]; decide) (hx.block H3.out.2.2.1) wr_no C
      have hb4 := hE4.block (setRow_heap W gr _ C 51 (0, 0) (hx.block H3.out.2.2.1))
      have hx4 : Ext w W4 := ((Chg.of_but (but_setRow (But.refl gr W) C)).new (H3.out.1.trans hx) fun z hz e => by have := H3.out.2.2.2.2.2.2; omega).trans hE4
      have HB := veil (And.intro hb4 (And.intro hx4 (And.intro (hk9.ext hE4) (hk20.ext hE4))))
      have HC := veil hC
      clear hb4 hx4 hE4 hk9 hk20 hC
      go_wp2
      refine bodyPost_ret (results_cell_row rfl _ _ gr 51 C (0, 0) _ rfl HB.out.1 Try.underlying51 rfl (by rw [HC.out]; exact iWr _ _ _ _)) rfl ⟨_, _, ?_, HB.out.2.1, HB.out.2.2.1, HB.out.2.2.2⟩
      rw [HC.out, show ((24 * (t' % 2) : Nat) : Int) = (t' : Int) % 2 * 24 by omega]
  · skip
    refine step_build (vs := [(0, .slice (some ⟨k1, 0, none⟩) 8 8), (1, .slice (some ⟨k2, 0, none⟩) 8 8), (2, .slice (some ⟨k1, 0, none⟩) 8 8)]) (C := #[.slice (some ⟨k1, 0, none⟩) 8 8, .slice (some ⟨k2, 0, none⟩) 8 8, .slice (some ⟨k1, 0, none⟩) 8 8]) (e := 23) _ rfl rfl rfl rfl rfl (fun W => by simp [Instr.buildSlice, go_sem]) ?_
    intro g7 W _ hg hE
    simp only [Act.put, List.setIfInBounds_toArray, List.set_cons_zero, List.set_cons_succ]
    have hx := hx.trans hE
    have K19 := veil (mk19.out g7 W hx hg)
    clear hg
    clear hE
    refine step_build (vs := [(0, .slice (some ⟨gl, 0, none⟩) 2 2), (1, .slice A m c)]) (C := #[.slice (some ⟨gl, 0, none⟩) 2 2, .slice A m c]) (e := 23) _ rfl rfl rfl rfl rfl (fun W => by simp [Instr.buildSlice, go_sem]) ?_
    intro g5 W _ hg hE
    simp only [Act.put, List.setIfInBounds_toArray, List.set_cons_zero, List.set_cons_succ]
    have K19 := veil (K19.out.ext hE)
    have hx := hx.trans hE
    have K8 := veil (mk8.out g5 W hx hg)
    clear hg
    clear hE
    refine step_fun (V := CatV w (encR bs)) _ rfl rfl rfl rfl rfl (enter_in Try.func24 rfl rfl _) (fun W hW => cat_calls hfl (by simp) hl9.1 hl9.2 (H3.out.1.trans (hx.trans hW)) (K8.out.ext hW)) ?_
    rintro _ W hE ⟨b1, o1, d1, rfl, hd1, hB1, hf1⟩
    simp only [Act.put, List.setIfInBounds_toArray, List.set_cons_zero, List.set_cons_succ]
    have K19 := veil (K19.out.ext hE)
    have hx := hx.trans hE
    have K9 := veil (show CatV w (encR bs) (.slice (some ⟨b1, o1, none⟩) (encR bs).length d1) W from ⟨b1, o1, d1, rfl, hd1, hB1, hf1⟩)
    clear hd1 hB1 hf1 K8
    clear hE
    refine' tree_row (A := _) _ rfl (by kernel_rfl) ?_ ?_
    rotate_left
    · intro D hD hN'
      simp only [pickI, consO, List.getElem?_cons_zero, List.getElem?_cons_succ]
      repeat (go_big_quiet_step (fail))
      exact wpq_end
    refine step_fun (V := CatV w (slotB t' e')) _ rfl rfl rfl rfl rfl (enter_in Try.func24 rfl rfl _) (fun W hW => cat_calls (l := [to8 t', to8 e', to8 t']) rfl (by simp) (by rw [slotB_len]; omega) (by rw [slotB_len]; omega) (H3.out.1.trans (hx.trans hW)) (K19.out.ext hW)) ?_
    rintro _ W hE ⟨b2, o2, d2, rfl, hd2, hB2, hf2⟩
    simp only [Act.put, List.setIfInBounds_toArray, List.set_cons_zero, List.set_cons_succ]
    have K9 := veil (K9.out.ext hE)
    have hx := hx.trans hE
    have K20 := veil (show CatV w (slotB t' e') (.slice (some ⟨b2, o2, none⟩) (slotB t' e').length d2) W from ⟨b2, o2, d2, rfl, hd2, hB2, hf2⟩)
    clear hd2 hB2 hf2 K19
    clear hE
    refine' tree_row (A := _) _ rfl (by kernel_rfl) ?_ ?_
    rotate_left
    · intro D hD hN'
      simp only [pickI, consO, List.getElem?_cons_zero, List.getElem?_cons_succ]
      repeat (go_big_quiet_step (fail))
      exact wpq_end
    refine step_one _ rfl rfl fun W hW => ?_
    have hx := hx.trans hW
    refine wp_store_row 51 _ _ rfl gr (wrC (48 + (e : Int)) (.slice (some ⟨b1, o1, none⟩) (encR bs).length d1) ((t' : Int) % 2 * 24) (.slice (some ⟨b2, o2, none⟩) (slotB t' e').length d2)) rfl rfl 51 _ (hx.block H3.out.2.2.1) (iWr _ _ _ _) rfl (wr_one _ _ _ _ _ _ _ _) ⟨fun hk => absurd hk (by decide), ?_⟩
    refine tree_end hQ' fun W4 hE4 => ?_
    simp only [Act.put]
    obtain ⟨C, hC⟩ : ∃ C, C = wrC (48 + (e : Int)) (.slice (some ⟨b1, o1, none⟩) (encR bs).length d1) ((t' : Int) % 2 * 24) (.slice (some ⟨b2, o2, none⟩) (slotB t' e').length d2) := ⟨_, rfl⟩
    rw [← hC] at hE4
    have hk9 := (K9.out.ext hW).row hl9.1 (hx.block H3.out.2.2.1) wr_no C
    have hk20 := (K20.out.ext hW).row (by rw [slotB_len]; decide) (hx.block H3.out.2.2.1) wr_no C
    have hb4 := hE4.block (setRow_heap W gr _ C 51 (0, 0) (hx.block H3.out.2.2.1))
    have hx4 : Ext w W4 := ((Chg.of_but (but_setRow (But.refl gr W) C)).new (H3.out.1.trans hx) fun z hz e => by have := H3.out.2.2.2.2.2.2; omega).trans hE4
    have HB := veil (And.intro hb4 (And.intro hx4 (And.intro (hk9.ext hE4) (hk20.ext hE4))))
    have HC := veil hC
    clear hb4 hx4 hE4 hk9 hk20 hC
    go_wp2
    refine bodyPost_ret (results_cell_row rfl _ _ gr 51 C (0, 0) _ rfl HB.out.1 Try.underlying51 rfl (by rw [HC.out]; exact iWr _ _ _ _)) rfl ⟨_, _, ?_, HB.out.2.1, HB.out.2.2.1, HB.out.2.2.2⟩
    rw [HC.out, show ((24 * (t' % 2) : Nat) : Int) = (t' : Int) % 2 * 24 by omega]
end Go.Proofs.Ytoikgkjkcampkaa
