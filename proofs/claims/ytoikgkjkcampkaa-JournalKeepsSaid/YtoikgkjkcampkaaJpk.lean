/-
  The landed journal: Open, Append.
-/
import Derived.Test.YtoikgkjkcampkaaJpj
namespace Go.Proofs.Ytoikgkjkcampkaa
open Go.RowKit

theorem endJ_zero {B : List Nat} (h : (endJ B).1 = 0) : recsJ B = [] := by
  have hz : ∀ k, (slotT B k).1 = 0 → slotT B k = (0, 0) := fun k hk => by
    unfold slotT at hk ⊢
    split at hk
    · rename_i c
      exact absurd hk c.2.1
    · rename_i c
      rw [if_neg c]
  have he : endJ B = (0, 0) := by
    unfold endJ at h ⊢
    split at h
    · rename_i c
      rw [if_pos c]
      exact hz 1 h
    · rename_i c
      rw [if_neg c]
      exact hz 0 h
  unfold recsJ
  rw [he]
  rfl
theorem jopen_nil (w : World) : Calls Try.prog 6 #[.pointer none] w fun e w' => e = .returned (.tuple #[.pointer none, .iface 39 (.int .i64 1)]) ∧ Ext w w' := by
  have ke : ∀ W : World, (binOp .eql 25 (.pointer none) (.pointer none)).run Try.prog W = .ok (.bool true) W := fun W => by kernel_rfl
  go_enter Try.func6, Try.ntmps6
  go_wp2
  go_ret2
  exact ⟨rfl, Ext.refl _⟩

set_option maxRecDepth 100000 in
set_option maxHeartbeats 4000000 in
theorem jopen_calls (g h : Nat) (B : List Nat) (h64 : 64 ≤ B.length) (w : World) (hF : Fla w g h B) :
    Calls Try.prog 6 #[.pointer (some ⟨g, 0, none⟩)] w fun e w' => ∃ q, e = .returned (.tuple #[.pointer (some ⟨q, 0, none⟩), .nilIface]) ∧ Ext w w' ∧ Jou w' q g (endJ B).1 (encRs (recsJ B)).length ∧ w.heap.size ≤ q := by
  have KS := veil (fsize_calls g h B w hF)
  have HF := veil hF
  have hm := hF.many
  obtain ⟨N, hN⟩ : ∃ N, N = B.length := ⟨_, rfl⟩
  rw [← hN] at KS hm
  have d1 : decide ((N : Int) < 64) = false := decide_eq_false (by omega)
  have HN := veil h64
  have ke : ∀ W : World, (binOp .eql 25 (.pointer (some ⟨g, 0, none⟩)) (.pointer none)).run Try.prog W = .ok (.bool false) W := fun W => by kernel_rfl
  clear hF hN h64
  go_enter Try.func6, Try.ntmps6
  go_upto_region 4 with (go_at_call 12; refine KS.out.mono ?_; rintro _ w1 ⟨rfl, hE1⟩)
  obtain ⟨q, hq⟩ : ∃ q, q = w1.heap.size := ⟨_, rfl⟩
  rw [← hq]
  have hE2 := Ext.alloc w1 (.cells #[.pointer (some ⟨g, 0, none⟩), .int .u64 0, .int .i64 0, .bool false, .slice none 0 0] 47)
  have hJ : Jou (w1.alloc (.cells #[.pointer (some ⟨g, 0, none⟩), .int .u64 0, .int .i64 0, .bool false, .slice none 0 0] 47)) q g 0 0 := row_new hq rfl fun i hi => by
    obtain rfl | rfl | rfl | rfl | rfl : i = 0 ∨ i = 1 ∨ i = 2 ∨ i = 3 ∨ i = 4 := by omega
    all_goals rfl
  generalize w1.alloc (.cells #[.pointer (some ⟨g, 0, none⟩), .int .u64 0, .int .i64 0, .bool false, .slice none 0 0] 47) = w2 at *
  have hs : w.heap.size ≤ q := by rw [hq]; exact Below.size hE1
  have H2 := veil (And.intro (hE1.trans hE2) (And.intro hJ hs))
  have KL := veil (look_calls q g h 0 0 B HN.out w2 (HF.out.ext (hE1.trans hE2)) hJ)
  clear hE1 hE2 hJ hs hq d1 KS
  go_wp2_with (go_at_call 13; refine KL.out.mono ?_; rintro _ w3 ⟨rfl, hL⟩)
  go_ret2
  obtain ⟨T, E, hC, hJ, hte, -⟩ := hL
  refine ⟨q, rfl, hC.new H2.out.1 fun z hz e => by have := H2.out.2.2; omega, ?_, H2.out.2.2⟩
  by_cases c : 0 < (endJ B).1
  · rw [if_pos c] at hte
    obtain ⟨rfl, rfl⟩ := Prod.mk.inj hte
    exact hJ
  · rw [if_neg c] at hte
    obtain ⟨rfl, rfl⟩ := Prod.mk.inj hte
    rw [endJ_zero (by omega : (endJ B).1 = 0), show (endJ B).1 = 0 by omega]
    exact hJ

theorem jou_ne {w : World} {q g g' h t e : Nat} {B : List Nat} (hJ : Jou w q g' t e) (hF : Fla w g h B) : q ≠ g := fun e => by
  subst e
  obtain ⟨c, h1, h2, _⟩ := hJ
  obtain ⟨d, h3, h4, _⟩ := hF.cel
  rw [h1] at h3
  injection h3 with h3
  injection h3 with h3
  subst h3
  omega
theorem jou_neh {w : World} {q g g' h t e : Nat} {B : List Nat} (hJ : Jou w q g' t e) (hF : Fla w g h B) : q ≠ h := fun e => by
  subst e
  obtain ⟨c, h1, _, _⟩ := hJ
  obtain ⟨d, h3, _, _⟩ := hF.row
  rw [h1] at h3
  injection h3 with h3
  injection h3 with _ h3
  exact absurd h3 (by decide)
/-- A call, whatever it does. -/
theorem wp_funJ {P : Program} {Q : Exit → Act → World → Prop} {k d : Nat} {K : Act → World → Prop} {o : Oper} {a : Act} {w : World} {xs : List Operand} {ts : Array TypeId} {args : List Value} {V : Value → World → Prop} (hd : o.dst = some d)
    (hop : o.op = .call { callee := .value (.func k), args := xs.toArray, argTypes := ts }) (hx : xs.map a.eval = args)
    (he : ∀ W, (callFunc k args.toArray).run P W = .ok (.enter k args.toArray) W) (hc : Calls P k args.toArray w fun e W' => ∃ v, e = .returned v ∧ V v W')
    (h : ∀ v W', V v W' → K (a.put (some d) v) W') : o.wp P a w K Q := by
  have h1 : execOp a.eval o = callFunc k (#[] ++ xs.toArray.map a.eval ++ #[]) := by
    cases o
    subst hop
    rfl
  have h2 : (execOp a.eval o).run P w = .ok (.enter k args.toArray) w := by
    rw [h1, List.map_toArray, hx]
    simpa using he w
  unfold Oper.wp
  rw [h2, Oper.upon_enter]
  refine hc.mono ?_
  rintro e W' ⟨v, rfl, hV⟩
  show K (a.put o.dst v) W'
  rw [hd]
  exact h v W' hV
theorem CatV.chg {w W W' : World} {bs : List Nat} {v : Value} {F : Nat → Prop} (h : CatV w bs v W) (k : Chg F W W') (hF : ∀ z, F z → z < w.heap.size) : CatV w bs v W' := by
  obtain ⟨b, o, c, e, hc, hB, hf⟩ := h
  exact ⟨b, o, c, e, hc, hB.chg k fun hn => by have := hF b hn; omega, hf⟩
theorem CatV.back {w w3 W : World} {bs : List Nat} {v : Value} (h : CatV w3 bs v W) (k : Ext w w3) : CatV w bs v W := by
  obtain ⟨b, o, c, e, hc, hB, hf⟩ := h
  exact ⟨b, o, c, e, hc, hB, Nat.le_trans (Below.size k) hf⟩
theorem run_index_v {P : Program} {o : Oper} {a : Act} {t : TypeId} {x y : Operand} {v u z : Value} {W : World} (ho : o.op = .index t x y) (hx : a.eval x = v) (hy : a.eval y = u) (h : (Instr.index t v u).run P W = .ok z W) : (execOp a.eval o).run P W = .ok (.value z) W := by
  unfold execOp
  simp only [ho, hx, hy, Sem.run_bind, h, Result.andThen_ok, Sem.run_pure]
theorem idx0 (x1 v1 x2 v2 : Value) (W : World) : (Instr.index 51 (.agg #[x1, v1, x2, v2]) (.int .i64 ((0 : Nat) : Int))).run Try.prog W = .ok (.agg #[x1, v1]) W := by kernel_rfl
theorem idx1 (x1 v1 x2 v2 : Value) (W : World) : (Instr.index 51 (.agg #[x1, v1, x2, v2]) (.int .i64 ((1 : Nat) : Int))).run Try.prog W = .ok (.agg #[x2, v2]) W := by kernel_rfl
/-- The flash behind the first steps of appending. -/
def stepsJ (B : List Nat) (e t' e' : Nat) (r : List Nat) : Nat → List Nat
  | 0 => B
  | 1 => putAt B (48 + e) (encR r)
  | _ => putAt (putAt B (48 + e) (encR r)) (24 * (t' % 2)) (slotB t' e')
theorem steps_len {B r : List Nat} {e t' e' : Nat} (h : 48 + e + (r.length + 2) ≤ B.length) : (stepsJ B e t' e' r 1).length = B.length := putAt_len (by rw [encR_len]; omega)
theorem hzW (W : World) : (Instr.alloc 50 true (.tuple #[])).run Try.prog W = .ok (ptrTo W.heap.size) (W.alloc (.cells #[.int .i64 0, .slice none 0 0] 50)) := by kernel_rfl
theorem iW1 (a : Int) (v : Value) : (Try.prog.info? 50).map (·.size) = some (#[.int .i64 a, v] : Array Value).size := by kernel_rfl
theorem w1_one (a : Int) (A : Option Addr) (n c : Nat) : (#[Value.int .i64 a, .slice A n c] : Array Value).all (·.oneCell') = true := by simp [Value.oneCell']

set_option maxRecDepth 100000 in
set_option maxHeartbeats 4000000 in
theorem jappend_calls (q g h t e : Nat) (B : List Nat) (h64 : 64 ≤ B.length) (hs : (endJ B).1 ≤ t) (ht : t < 4611686018427387904) (he : e ≤ B.length - 48) (hqh : q ≠ h) (w : World) (hF : Fla w g h B) (hJ : Jou w q g t e) (A : Option Addr) (m c : Nat) (r : List Nat) (hm : m = r.length) (hmc : m ≤ c) (hB : Bs w A r) :
    Calls Try.prog 7 #[.pointer (some ⟨q, 0, none⟩), .slice A m c] w fun ev w' => ∃ x, ev = .returned x ∧ ((¬ (1 ≤ m ∧ m ≤ 2000 ∧ m ≤ B.length - 48 - e - 2) ∧ (∃ y : Int, x = .iface 39 (.int .i64 y)) ∧ Ext w w') ∨
      ((1 ≤ m ∧ m ≤ 2000 ∧ m ≤ B.length - 48 - e - 2) ∧ x = .nilIface ∧ Chg (fun k => k = h ∨ k = q) w w' ∧ Fla w' g h (stepsJ B e (t + 1) (e + 2 + m) r 2) ∧ Jou w' q g (t + 1) (e + 2 + m))) := by
  have KR := veil (refusal_calls q g h t e B h64 hs he w hF hJ A m c)
  have hmany := hF.many
  have KN := veil (fun W (h' : Ext w W) (hm : m ≤ 1048576) => next_calls q g t e ht (by omega) W (hJ.ext h') A m c hm)
  have KW := veil (fun W (h' : Ext w W) (h1 : 1 ≤ m) (h2 : m ≤ 2000) => writes_calls q g t e (t + 1) (e + 2 + m) (by omega) (by omega) (by omega) W (hJ.ext h') A m c r hm hmc h1 h2 (hB.ext h'))
  have H0 := veil (And.intro hF (And.intro hJ (And.intro hm (And.intro hqh (And.intro h64 (And.intro he ht))))))
  clear hF hJ hB hm hqh
  have ke : ∀ y W, (binOp .neq 27 (.iface 39 (.int .i64 y)) .nilIface).run Try.prog W = .ok (.bool true) W := fun y W => by kernel_rfl
  have kn := neNil16
  go_enter Try.func7, Try.ntmps7
  go_upto_region 2 with (go_at_call 14; refine KR.out.mono ?_; rintro _ w1 ⟨x, rfl, hE1, hx⟩)
  have H1 := veil hE1
  clear hE1 KR
  rcases hx with ⟨rfl, m1, m2, m3⟩ | ⟨hno, y, rfl⟩
  · have HM := veil (And.intro m1 (And.intro m2 (show m ≤ B.length - 48 - e - 2 by omega)))
    have KN1 := veil (KN.out w1 H1.out (by omega))
    have KW1 := veil (fun W (h' : Ext w1 W) => KW.out W (H1.out.trans h') m1 m2)
    clear KN KW m1 m2 m3
    have hbd : t + 1 < 9223372036854775808 ∧ e + 2 + m ≤ 1048576 := by have := HM.out; omega
    generalize ht1 : t + 1 = t1 at *
    generalize he1 : e + 2 + m = e1 at *
    have hq := World.rowIs.lt H0.out.2.1
    have hh := H0.out.1.row.lt
    have H9 := veil (And.intro ht1 (And.intro he1 (And.intro hbd (And.intro hq hh))))
    clear ht1 he1 hbd hq hh
    go_upto_region 5 with (first
      | (go_at_call 15; refine KN1.out.mono ?_; rintro _ w2 ⟨rfl, hE2⟩)
      | ((with_reducible refine at_slot 6 ?_); refine wpl_var _ _ rfl rfl rfl rfl rfl rfl (cells := slC t1 e1) hzSl (fun _ => rfl) (fun _ => rfl) iSl rfl (slC_one _ _) ?_; intro gs w3 hgs hb3 hE3; simp only [Act.put, List.setIfInBounds_toArray, List.set_cons_zero, List.set_cons_succ, ptrTo]))
    have H3 := veil (And.intro (H1.out.trans (hE2.trans hE3)) (And.intro hb3 (Nat.le_trans (Below.size (H1.out.trans hE2)) hgs)))
    have KW3 := veil (KW1.out w3 (hE2.trans hE3))
    have cg0 := (slC_row hb3).1
    have cg1 := (slC_row hb3).2
    clear hE2 hE3 hgs hb3 KN1 KW1
    go_upto_region 6 with (go_at_call 16; refine KW3.out.mono ?_; rintro _ w4 ⟨v1, v2, rfl, hE4, hV1, hV2⟩)
    have H4 := veil (And.intro (H3.out.1.trans hE4) (And.intro (hE4.block H3.out.2.1) (And.intro H3.out.2.2 (And.intro (hV1.back H3.out.1) (hV2.back H3.out.1)))))
    clear cg0 cg1 hE4 hV1 hV2 KW3 H3
    unfold wrC
    obtain ⟨a2, ha2, ha3⟩ : ∃ a2 : Nat, 24 * ((t1 : Int) % 2) = (a2 : Int) ∧ a2 = 24 * (t1 % 2) := ⟨24 * (t1 % 2), by omega, rfl⟩
    rw [ha2]
    have HA := veil ha3
    clear ha2 ha3
    go_loopw [22] (fun v22 wr => ∃ i : Nat, i ≤ 2 ∧ v22 = .int .i64 (i : Int) ∧ Fla wr g h (stepsJ B e t1 e1 r i) ∧ Chg (fun k => k = h) w wr ∧ wr.heap[gs]? = some (.cells (slC t1 e1) 45 (0, 0)) ∧ CatV w (encR r) v1 wr ∧ CatV w (slotB t1 e1) v2 wr)
      (fun v _ => 2 - (intOf v).toNat)
    case atStart => exact ⟨0, by omega, rfl, H0.out.1.ext H4.out.1, Chg.of_ext H4.out.1, H4.out.2.1, H4.out.2.2.2.1, H4.out.2.2.2.2⟩
    case round =>
      obtain ⟨i, hi, rfl, hF, hC, hb, hV1, hV2⟩ := hrel
      have HS := veil (And.intro hF (And.intro hC (And.intro hb (And.intro hV1 hV2))))
      clear hF hC hb hV1 hV2
      obtain rfl | rfl | rfl : i = 0 ∨ i = 1 ∨ i = 2 := by omega
      · obtain ⟨b, o, d, hv, hd, hBs, hfr⟩ := HS.out.2.2.2.1
        have hl0 : (encR r).length = m + 2 := by rw [encR_len, H0.out.2.2.1]
        rw [hl0] at hv hd
        go_upto_region 8 with (first
          | ((with_reducible refine at_slot 24 ?_); refine wpl_val (.agg #[.int .i64 (48 + (e : Int)), v1]) rfl (run_index_v rfl rfl rfl (idx0 _ _ _ _ _)) ?_)
          | ((with_reducible refine at_slot 8 ?_); refine wpl_var _ _ rfl rfl rfl rfl rfl rfl (cells := #[.int .i64 (48 + (e : Int)), v1]) hzW (fun _ => rfl) (fun _ => rfl) (iW1 _ _) rfl (by rw [hv]; exact w1_one _ _ _ _) ?_; intro gw w5 hgw hb5 hE5; simp only [Act.put, List.setIfInBounds_toArray, List.set_cons_zero, List.set_cons_succ, ptrTo]))
        have cw0 := (cell_of_row w5 gw 0 _ _ _ hb5).trans rfl
        have cw1 := (cell_of_row w5 gw 1 _ _ _ hb5).trans rfl
        rw [hv] at cw1
        have hC5 := HS.out.2.1.ext hE5
        have cq := (H0.out.2.1.chg hC5 H0.out.2.2.2.1).c0
        have HW := veil (And.intro hl0.symm (And.intro hd (And.intro (show (48 + e) + (m + 2) ≤ (stepsJ B e t1 e1 r 0).length by show 48 + e + (m + 2) ≤ B.length; have := HM.out; have := H0.out.2.2.2.2; omega) (And.intro (HS.out.1.ext hE5) (hBs.ext hE5)))))
        have H5 := veil (And.intro hC5 (And.intro hE5 (And.intro hv hl0)))
        clear hC5 hE5 hgw hb5 hBs hd hl0 hfr
        refine wp_sched 8 [(true, List.range 8), (false, [8])] (by kernel_rfl) (by kernel_rfl) fun Q' hQ' => ?_
        refine' sched_row (A := _) _ rfl (by kernel_rfl) ?_ ?_
        rotate_left
        · intro D hD hN'
          have e0 := hD.cell cq
          have e1 := hD.cell cw0
          have e2 := hD.cell cw1
          simp only [List.range, List.range.loop, pickI, consO, List.getElem?_cons_zero, List.getElem?_cons_succ]
          repeat (go_big_quiet_step (fail))
          exact wpq_end
        clear cq cw0 cw1
        refine sched_one _ rfl rfl fun W hW => ?_
        have hW6 := fwrite_calls g h (stepsJ B e t1 e1 r 0) (48 + e) b o (m + 2) d _ HW.out.1 HW.out.2.1 HW.out.2.2.1 W (HW.out.2.2.2.1.ext hW) (HW.out.2.2.2.2.ext hW)
        refine wp_funJ (V := fun v W' => v = .nilIface ∧ Chg (fun k => k = h) W W' ∧ Fla W' g h (stepsJ B e t1 e1 r 1)) rfl rfl rfl (enter_in Try.func17 rfl rfl _) (hW6.mono fun _ _ ⟨he, hc, hf⟩ => ⟨_, he, rfl, hc, hf⟩) ?_
        rintro _ w6 ⟨rfl, hC6, hF6⟩
        refine ⟨fun hk => absurd hk (by decide), ?_⟩
        refine sched_end hQ' fun W7 hE7 => ?_
        simp only [Act.put, List.setIfInBounds_toArray, List.set_cons_zero, List.set_cons_succ]
        have hC57 : Chg (fun k => k = h) w5 W7 := (((Chg.of_ext (F := fun k => k = h) hW).trans hC6 fun _ _ e => e)).ext hE7
        have hC7 : Chg (fun k => k = h) w W7 := H5.out.1.trans hC57 fun _ _ e => e
        have H7 := veil (show Fla W7 g h (stepsJ B e t1 e1 r 1) ∧ Chg (fun k => k = h) w W7 ∧ W7.heap[gs]? = some (.cells (slC t1 e1) 45 (0, 0)) ∧ CatV w (encR r) v1 W7 ∧ CatV w (slotB t1 e1) v2 W7 from
          ⟨hF6.ext hE7, hC7, hC57.at (H5.out.2.1.block HS.out.2.2.1) fun e => by have := H4.out.2.2.1; have := H9.out.2.2.2.2; omega, (HS.out.2.2.2.1.ext H5.out.2.1).chg hC57 fun z e => by rw [e]; exact H9.out.2.2.2.2, (HS.out.2.2.2.2.ext H5.out.2.1).chg hC57 fun z e => by rw [e]; exact H9.out.2.2.2.2⟩)
        clear hC6 hF6 hE7 hC57 hC7 hW6
        go_wp2
        go_roundw
        case rel => exact ⟨1, by omega, by go_num, H7.out⟩
        case measure => simp [intOf]
      · obtain ⟨b, o, d, hv, hd, hBs, hfr⟩ := HS.out.2.2.2.2
        have hl0 : (slotB t1 e1).length = 24 := slotB_len _ _
        rw [hl0] at hv hd
        go_upto_region 8 with (first
          | ((with_reducible refine at_slot 24 ?_); refine wpl_val (.agg #[.int .i64 (a2 : Int), v2]) rfl (run_index_v rfl rfl rfl (idx1 _ _ _ _ _)) ?_)
          | ((with_reducible refine at_slot 8 ?_); refine wpl_var _ _ rfl rfl rfl rfl rfl rfl (cells := #[.int .i64 (a2 : Int), v2]) hzW (fun _ => rfl) (fun _ => rfl) (iW1 _ _) rfl (by rw [hv]; exact w1_one _ _ _ _) ?_; intro gw w5 hgw hb5 hE5; simp only [Act.put, List.setIfInBounds_toArray, List.set_cons_zero, List.set_cons_succ, ptrTo]))
        have cw0 := (cell_of_row w5 gw 0 _ _ _ hb5).trans rfl
        have cw1 := (cell_of_row w5 gw 1 _ _ _ hb5).trans rfl
        rw [hv] at cw1
        have hC5 := HS.out.2.1.ext hE5
        have cq := (H0.out.2.1.chg hC5 H0.out.2.2.2.1).c0
        have HW := veil (And.intro hl0.symm (And.intro hd (And.intro (show a2 + 24 ≤ (stepsJ B e t1 e1 r 1).length by have := HA.out; rw [steps_len (by rw [← H0.out.2.2.1]; have := HM.out; have := H0.out.2.2.2.2; omega)]; have := H0.out.2.2.2.2.1; omega) (And.intro (HS.out.1.ext hE5) (hBs.ext hE5)))))
        have H5 := veil (And.intro hC5 (And.intro hE5 (And.intro hv hl0)))
        clear hC5 hE5 hgw hb5 hBs hd hl0 hfr
        refine wp_sched 8 [(true, List.range 8), (false, [8])] (by kernel_rfl) (by kernel_rfl) fun Q' hQ' => ?_
        refine' sched_row (A := _) _ rfl (by kernel_rfl) ?_ ?_
        rotate_left
        · intro D hD hN'
          have e0 := hD.cell cq
          have e1 := hD.cell cw0
          have e2 := hD.cell cw1
          simp only [List.range, List.range.loop, pickI, consO, List.getElem?_cons_zero, List.getElem?_cons_succ]
          repeat (go_big_quiet_step (fail))
          exact wpq_end
        clear cq cw0 cw1
        refine sched_one _ rfl rfl fun W hW => ?_
        have hW6 := fwrite_calls g h (stepsJ B e t1 e1 r 1) a2 b o 24 d _ HW.out.1 HW.out.2.1 HW.out.2.2.1 W (HW.out.2.2.2.1.ext hW) (HW.out.2.2.2.2.ext hW)
        refine wp_funJ (V := fun v W' => v = .nilIface ∧ Chg (fun k => k = h) W W' ∧ Fla W' g h (stepsJ B e t1 e1 r 2)) rfl rfl rfl (enter_in Try.func17 rfl rfl _) (hW6.mono fun _ _ ⟨he, hc, hf⟩ => ⟨_, he, rfl, hc, by rw [HA.out] at hf; exact hf⟩) ?_
        rintro _ w6 ⟨rfl, hC6, hF6⟩
        refine ⟨fun hk => absurd hk (by decide), ?_⟩
        refine sched_end hQ' fun W7 hE7 => ?_
        simp only [Act.put, List.setIfInBounds_toArray, List.set_cons_zero, List.set_cons_succ]
        have hC57 : Chg (fun k => k = h) w5 W7 := (((Chg.of_ext (F := fun k => k = h) hW).trans hC6 fun _ _ e => e)).ext hE7
        have hC7 : Chg (fun k => k = h) w W7 := H5.out.1.trans hC57 fun _ _ e => e
        have H7 := veil (show Fla W7 g h (stepsJ B e t1 e1 r 2) ∧ Chg (fun k => k = h) w W7 ∧ W7.heap[gs]? = some (.cells (slC t1 e1) 45 (0, 0)) ∧ CatV w (encR r) v1 W7 ∧ CatV w (slotB t1 e1) v2 W7 from
          ⟨hF6.ext hE7, hC7, hC57.at (H5.out.2.1.block HS.out.2.2.1) fun e => by have := H4.out.2.2.1; have := H9.out.2.2.2.2; omega, (HS.out.2.2.2.1.ext H5.out.2.1).chg hC57 fun z e => by rw [e]; exact H9.out.2.2.2.2, (HS.out.2.2.2.2.ext H5.out.2.1).chg hC57 fun z e => by rw [e]; exact H9.out.2.2.2.2⟩)
        clear hC6 hF6 hE7 hC57 hC7 hW6
        go_wp2
        go_roundw
        case rel => exact ⟨2, by omega, by go_num, H7.out⟩
        case measure => simp [intOf]
      · have cg := slC_row HS.out.2.2.1
        have cg0 := cg.1
        have cg1 := cg.2
        have hJ := H0.out.2.1.chg HS.out.2.1 H0.out.2.2.2.1
        have cq1 := hJ.c1
        have cq2 := hJ.c2
        have fq1 := World.rowIs.frozen hJ 1
        have fq2 := World.rowIs.frozen hJ 2
        have HJ := veil hJ
        clear hJ cg
        go_wp2
        go_ret
        rw [H9.out.1, H9.out.2.1]
        refine ⟨_, rfl, .inr ⟨HM.out, rfl, ?_, ?_, HJ.out.put⟩⟩
        · exact Chg.setCell (p := ⟨q, 2, none⟩) (Chg.setCell (p := ⟨q, 1, none⟩) (HS.out.2.1.mono fun z _ e => .inl e) (.inl (.inr rfl)) _) (.inl (.inr rfl)) _
        · exact HS.out.1.chg (chg_put (Chg.refl _ wr) _ _) (fun e => jou_ne H0.out.2.1 H0.out.1 e.symm) (fun e => H0.out.2.2.2.1 e.symm)
  · have hno2 : ¬ (1 ≤ m ∧ m ≤ 2000 ∧ m ≤ B.length - 48 - e - 2) := fun k => hno ⟨k.1, k.2.1, by omega⟩
    have HNO := veil hno2
    have ky := ke y
    clear hno hno2
    go_wp2
    go_ret
    exact ⟨_, rfl, .inl ⟨HNO.out, ⟨y, rfl⟩, H1.out⟩⟩
end Go.Proofs.Ytoikgkjkcampkaa
