/-
  clapperref11.Bytes: a list's bytes as a text; Same: are two lists the same.
-/
import Derived.Test.YtldnncamaglofaaRb
import Derived.Test.YtldnncamaglofaaK2
namespace Go.Proofs.Ytldnncamaglofaa
open Go.RowKit

theorem up_calls11 {P : Program} {w : World} {D : World → Prop} (h : Up w D) {f : FuncId} {args : Array Value} {v : Value} (k : ∀ W, Ext w W → Calls P f args W fun _e w' => _e = .returned v ∧ Ext W w') (x : Gw D) :
    Calls P f args x.val fun _e w' => _e = .returned v ∧ ∃ y : Gw D, w' = y.val :=
  (k _ (h.grown _ x.property)).mono fun _ w' ⟨he, hE⟩ => ⟨he, ⟨w', h.up _ _ x.property hE⟩, rfl⟩

set_option maxRecDepth 100000 in
set_option maxHeartbeats 8000000 in
theorem rbytes11_calls (v : Value) (l : List Rv) (w : World) (hF : Rs w v l) (hM : mayRs l = true) :
    Calls Try.prog 12 #[v] w fun e w' => e = .returned (.string (strL (revB l))) ∧ Ext w w' := by
  obtain ⟨AL, c, rfl, hc, hx⟩ := hF
  obtain ⟨n, hn⟩ : ∃ n, n = l.length := ⟨_, rfl⟩
  rw [← hn] at hx hc ⊢
  have hnL : n ≤ 200 := by rw [hn]; exact mayRs_200 hM
  have HX := veil (And.intro hx (And.intro hn hM))
  clear hx hn hM
  go_enter Try.func12, Try.ntmps12
  go_wp2
  go_loopw [3, 4] (fun v u wr => ∃ i : Nat, i ≤ n ∧ u = .int .i64 (i : Int) ∧ v = .string (strL (rvsB (l.take i))) ∧ Ext w wr)
    (fun _ v _ => n - (intOf v).toNat)
  case atStart => exact ⟨0, by omega, rfl, rfl, Ext.refl _⟩
  case round =>
    obtain ⟨i, hi, rfl, rfl, hE⟩ := hrel
    by_cases hlt : i < n
    · have hd1 : decide ((i : Int) < (n : Int)) = true := by simp; omega
      have hii : (i : Int) < (n : Int) := by omega
      have hil : i < l.length := by have := HX.out.2.1; omega
      obtain ⟨b, o, hAL, hb, hcl⟩ := HX.out.1.resolve_left (by omega)
      have hrg := range_ext hE hb (hcl i _ (rv_get hil))
      obtain ⟨h1, h2, h3, h4, _⟩ := mayRs_ok HX.out.2.2 hil
      have hst := rvs_step l hil
      have hsl : (rvsB (l.take i)).length = 16 * i := by rw [rvsB_length, List.length_take]; omega
      obtain ⟨ks, hks⟩ : ∃ m : Nat, rvS l i = (m : Int) := ⟨(rvS l i).toNat, by omega⟩
      obtain ⟨kf, hkf⟩ : ∃ m : Nat, rvF l i = (m : Int) := ⟨(rvF l i).toNat, by omega⟩
      have c0 : wr.cell? ⟨b, o + i * 2, none⟩ = some (.int .i64 (rvS l i)) := rv_s hrg
      have c1 : wr.cell? ⟨b, o + i * 2 + 1, none⟩ = some (.int .i64 (rvF l i)) := rv_f hrg
      rw [hks] at c0 hst
      rw [hkf] at c1 hst
      obtain ⟨D, hD⟩ : ∃ D, D = rvsB (l.take i) := ⟨_, rfl⟩
      rw [← hD] at hst hsl ⊢
      have HS := veil (show strL D ++ strL (numB (ks : Int)) ++ strL (numB (kf : Int)) = strL (rvsB (l.take (i + 1))) by rw [hst, strL_append, strL_append, ByteArray.append_assoc])
      have K1 := veil (fun W => rnum8_calls ks (by omega) W)
      have K2 := veil (fun W => rnum8_calls kf (by omega) W)
      have z0 : (strL D).size = 16 * i := by rw [strL_size, hsl]
      have z1 : (strL (numB (ks : Int))).size = 8 := by rw [strL_size, numB_length]
      have z2 : (strL (numB (kf : Int))).size = 8 := by rw [strL_size, numB_length]
      have z01 : (strL D ++ strL (numB (ks : Int))).size = 16 * i + 8 := by rw [ByteArray.size_append, z0, z1]
      have HH := veil hE
      subst hAL
      clear hst hE hcl hb hks hkf hD hsl hrg h1 h2 h3 h4
      go_upto_region 5 with (fail)
      refine wp_sched 16 [(true, [0, 1, 2, 3, 4, 5, 6, 7, 8, 9, 10, 11, 12, 13, 14, 15])] (by kernel_rfl) (by kernel_rfl) fun Q' hQ' => ?_
      refine' sched_row (A := _) _ rfl (by kernel_rfl) ?_ ?_
      rotate_left
      · intro D' hD' hN
        have e0 := hD'.cell c0
        have e1 := hD'.cell c1
        have k1 := veil (fun x : Gw D' => up_calls11 hD' (v := .string (strL (numB (ks : Int)))) (fun W _ => K1.out W) x)
        have k2 := veil (fun x : Gw D' => up_calls11 hD' (v := .string (strL (numB (kf : Int)))) (fun W _ => K2.out W) x)
        simp only [pickI, consO, List.getElem?_cons_zero, List.getElem?_cons_succ]
        iterate 7 (go_big_quiet_step (exact k1.out _))
        iterate 6 (go_big_quiet_step (fail))
        go_big_quiet_step (exact k2.out _)
        go_big_quiet_step (fail)
        go_big_quiet_step (fail)
        exact wpq_end
      refine sched_end hQ' fun W3 hE3 => ?_
      have HE := veil (HH.out.trans hE3)
      rw [HS.out]
      clear z0 z1 z2 z01 hE3 c0 c1 K1 K2
      go_wp2
      go_roundw
      case rel => exact ⟨i + 1, by omega, by go_num, rfl, HE.out⟩
      case measure => simp [intOf]; omega
    · obtain rfl : i = n := by omega
      have hd1 : decide ((i : Int) < (i : Int)) = false := by simp
      have e : l.take i = l := by rw [HX.out.2.1, List.take_length]
      rw [e]
      have hlen : (rvsB l).length = 16 * i := by rw [rvsB_length, HX.out.2.1]
      have hbt := rvsB_byt l
      have hm : mayFs [((1 : Int), rvsB l)] = true := rev_may (by rw [← HX.out.2.1]; omega)
      have hR : revB l = encF [((1 : Int), rvsB l)] := rfl
      generalize rvsB l = D at *
      have HE := veil (And.intro hE (And.intro hbt (And.intro hm (And.intro hlen hR))))
      clear hE e hbt hm hR hlen
      go_wp2_with (first
        | ((with_reducible refine at_slot 29 ?_); refine wpl_bytes (bs := D) rfl rfl rfl HE.out.2.1 ?_; intro A' c' w2 hE2 hc' hB2 hF2)
        | ((with_reducible refine at_slot 32 ?_); refine wpl_append_fd (f := ((1 : Int), D)) (al := (A', c')) rfl rfl rfl rfl (OwnFs.nil _ w2.heap.size) (heap_new w2 _) hc' (hB2.ext (Ext.alloc w2 _)) (.inr fun b o _ h => nomatch h) (by simp) (Below.size (Ext.alloc w2 _)) ?_; intro v' w5 hO5 hG5; have hG5 := veil hG5; have KP := veil (rput8_calls _ _ w5 hO5.fl HE.out.2.2.1))
        | (go_at_call 24; refine KP.out.mono ?_; rintro e w6 ⟨rfl, hE6⟩))
      go_ret
      refine ⟨by rw [HE.out.2.2.2.2]; rfl, Ext.trans ((HE.out.1.trans hE2).trans ((Ext.alloc w2 _).trans ((Ext.refl _).grown hG5.out (Nat.le_refl _) fun k hk => nomatch hk))) hE6⟩

/-! ### Same -/
def WfR (l : List Rv) : Prop := ∀ x ∈ l, (Lit.int .i64 x.1).wf = true ∧ (Lit.int .i64 x.2).wf = true
theorem wfR_int {n : Int} (h0 : -9223372036854775808 ≤ n) (h1 : n ≤ 9223372036854775807) : (Lit.int .i64 n).wf = true := by
  show (decide (_ ≤ n) && decide (n ≤ _)) = true
  simp only [Bool.and_eq_true, decide_eq_true_eq]
  exact ⟨h0, h1⟩
theorem wfR_may {l : List Rv} (h : mayRs l = true) : WfR l := fun x hx => by
  obtain ⟨h1, h2, h3, h4⟩ := mayRs_each h x hx
  exact ⟨wfR_int (by omega) (by omega), wfR_int (by omega) (by omega)⟩
theorem cellsR11 : Try.prog.cellsOf 43 = 2 := by kernel_rfl
theorem cellsI11 : Try.prog.cellsOf 3 = 1 := by kernel_rfl
theorem lits_int11 {n : Int} (h : (Lit.int .i64 n).wf = true) (D : Nat) : Try.prog.keyLits (D + 1) 3 [.int .i64 n] = some [.int .i64 n] := by
  unfold Program.keyLits
  simp [Try.underlying3, h]
set_option maxRecDepth 100000 in
theorem lits_rv {x : Rv} (h : (Lit.int .i64 x.1).wf = true ∧ (Lit.int .i64 x.2).wf = true) (D : Nat) : Try.prog.keyLits (D + 2) 43 (rvC x) = some [.int .i64 x.1, .int .i64 x.2] := by
  have h0 := lits_int11 h.1 D
  have h1 := lits_int11 h.2 D
  unfold Program.keyLits rvC
  simp [Try.underlying43, cellsR11, cellsI11, h0, h1]
set_option maxRecDepth 100000 in
theorem eqR11 {x : Rv} (h : (Lit.int .i64 x.1).wf = true ∧ (Lit.int .i64 x.2).wf = true) (w : World) : (binOp .eql 43 (.agg (rvC x).toArray) (.agg (rvC x).toArray)).run Try.prog w = .ok (.bool true) w := by
  rw [run_eql_struct]
  obtain ⟨r, hr, hiff⟩ := run_equalIn_deep (P := Try.prog) 9990 10 43 (by kernel_rfl) w 10000 10000 (.agg (rvC x).toArray) (.agg (rvC x).toArray) _ _ (by simp [Value.formed, Try.underlying43, cellsR11, rvC]) (by simp [Value.formed, Try.underlying43, cellsR11, rvC]) (lits_rv h 9998) (lits_rv h 9998)
  rw [hr, Result.andThen_ok, hiff.2 rfl]
theorem neqR_of {P : Program} {t : TypeId} {c d : Array Value} {b r : Bool} {W : World} (h : (binOp .eql t (.agg c) (.agg d)).run P W = .ok (.bool b) W) (hr : (!b) = r) : (binOp .neq t (.agg c) (.agg d)).run P W = .ok (.bool r) W := by
  subst hr
  have h1 : (do pure (Value.bool (← Op.equal t (.agg c) (.agg d))) : Sem Value).run P W = .ok (.bool b) W := h
  show (do pure (Value.bool (!(← Op.equal t (.agg c) (.agg d)))) : Sem Value).run P W = .ok (.bool (!b)) W
  simp only [Sem.run_bind, Sem.run_pure] at h1 ⊢
  generalize (Op.equal t (.agg c) (.agg d)).run P W = r at h1 ⊢
  cases r with
  | ok v w' =>
    simp only [Result.andThen_ok, Result.ok.injEq, Value.bool.injEq] at h1 ⊢
    exact ⟨by rw [h1.1], h1.2⟩
  | halt x w' => simp [Result.andThen] at h1
theorem gR11 (x y : Rv) (op : BinOp) (p q : Operand) (W : World) : (eqGuard op 43 p q (.agg (rvC x).toArray) (.agg (rvC y).toArray)).run Try.prog W = .ok () W := by
  unfold rvC
  cases op <;> simp [eqGuard, go_sem]
theorem run_loadm11 {P : Program} {o : Oper} {a : Act} {ty : TypeId} {x : Operand} {b off : Nat} {cs : List Value} {d : TypeDesc} {W : World} (ho : o.op = .load ty x) (hx : a.eval x = .pointer (some ⟨b, off, none⟩)) (hr : W.rangeAt b off cs)
    (hu : P.underlying ty = some d) (hd : d.isRow = true) (hi : (P.info? ty).map (·.size) = some cs.length) : (execOp a.eval o).run P W = .ok (.value (.agg cs.toArray)) W := by
  unfold execOp
  simp only [ho, hx, Instr.loadAt, Instr.sureAddr, Sem.run_bind, Sem.run_pure, Result.andThen_ok, run_loadVar_mid W b off ty cs d hr hu hd hi]
theorem up_range11 {w : World} {D : World → Prop} (h : Up w D) {b off : Nat} {L : List Value} (hb : b < w.heap.size) (hr : w.rangeAt b off L) (x : Gw D) : x.val.rangeAt b off L := range_ext (h.grown _ x.property) hb hr

set_option maxRecDepth 100000 in
set_option maxHeartbeats 8000000 in
theorem rsame11_calls (v1 v2 : Value) (l : List Rv) (w : World) (h1 : Rs w v1 l) (h2 : Rs w v2 l) (hW : WfR l) (hL : l.length ≤ 1000000000) :
    Calls Try.prog 15 #[v1, v2] w fun e w' => e = .returned (.bool true) ∧ Ext w w' := by
  obtain ⟨A1, c1, rfl, hc1, hx1⟩ := h1
  obtain ⟨A2, c2, rfl, hc2, hx2⟩ := h2
  obtain ⟨n, hn⟩ : ∃ n, n = l.length := ⟨_, rfl⟩
  rw [← hn] at hx1 hx2 hc1 hc2 hL ⊢
  have HX := veil (And.intro hx1 (And.intro hx2 (And.intro hn hW)))
  clear hx1 hx2 hn hW
  have f0 : ((n : Int) != (n : Int)) = false := by simp
  go_enter Try.func15, Try.ntmps15
  go_wp2
  go_loopw [5] (fun v wr => ∃ i : Nat, i ≤ n ∧ v = .int .i64 (i : Int) ∧ Ext w wr)
    (fun v _ => n - (intOf v).toNat)
  case atStart => exact ⟨0, by omega, rfl, Ext.refl _⟩
  case round =>
    obtain ⟨i, hi, rfl, hE⟩ := hrel
    by_cases hlt : i < n
    · have hd1 : decide ((i : Int) < (n : Int)) = true := by simp; omega
      have hii : (i : Int) < (n : Int) := by omega
      have hil : i < l.length := by have := HX.out.2.2.1; omega
      obtain ⟨b1, o1, hA1, hb1, hcl1⟩ := HX.out.1.resolve_left (by omega)
      obtain ⟨b2, o2, hA2, hb2, hcl2⟩ := HX.out.2.1.resolve_left (by omega)
      have hwx := HX.out.2.2.2 _ (List.mem_of_getElem? (rv_get hil))
      have HRG := veil (And.intro (And.intro (Nat.lt_of_lt_of_le hb1 (Below.size hE)) (range_ext hE hb1 (hcl1 i _ (rv_get hil)))) (And.intro (And.intro (Nat.lt_of_lt_of_le hb2 (Below.size hE)) (range_ext hE hb2 (hcl2 i _ (rv_get hil)))) hE))
      generalize l.getD i (0, 0) = k at *
      have n1 : ∀ W, (binOp .neq 43 (.agg (rvC k).toArray) (.agg (rvC k).toArray)).run Try.prog W = .ok (.bool false) W := fun W => neqR_of (eqR11 hwx W) rfl
      have n3 : ∀ op x y W, (eqGuard op 43 x y (.agg (rvC k).toArray) (.agg (rvC k).toArray)).run Try.prog W = .ok () W := fun op x y W => gR11 k k op x y W
      subst hA1 hA2
      clear hb1 hb2 hcl1 hcl2 hwx hE hil
      go_upto_region 6 with (fail)
      refine wp_sched 9 [(true, [0, 1, 2, 3, 4, 5, 6, 7, 8])] (by kernel_rfl) (by kernel_rfl) fun Q' hQ' => ?_
      refine' sched_row (A := _) _ rfl (by kernel_rfl) ?_ ?_
      rotate_left
      · intro D hD hN
        simp only [pickI, consO, List.getElem?_cons_zero, List.getElem?_cons_succ]
        iterate 3 (go_big_quiet_step (fail))
        go_big_quiet_want
        refine quiet_val (.agg (rvC k).toArray) (fun x => run_loadm11 rfl rfl (up_range11 hD HRG.out.1.1 HRG.out.1.2 x) Try.underlying43 rfl (iRv k)) ?_
        simp only [Act.put, List.setIfInBounds_toArray, List.set_cons_zero, List.set_cons_succ]
        go_big_quiet_on
        iterate 3 (go_big_quiet_step (fail))
        go_big_quiet_want
        refine quiet_val (.agg (rvC k).toArray) (fun x => run_loadm11 rfl rfl (up_range11 hD HRG.out.2.1.1 HRG.out.2.1.2 x) Try.underlying43 rfl (iRv k)) ?_
        simp only [Act.put, List.setIfInBounds_toArray, List.set_cons_zero, List.set_cons_succ]
        go_big_quiet_on
        go_big_quiet_step (fail)
        exact wpq_end
      refine sched_end hQ' fun W3 hE3 => ?_
      have HE := veil (HRG.out.2.2.trans hE3)
      clear hE3 n1 n3
      go_wp2
      go_roundw
      case rel => exact ⟨i + 1, by omega, by go_num, HE.out⟩
      case measure => simp [intOf]; omega
    · obtain rfl : i = n := by omega
      have hd1 : decide ((i : Int) < (i : Int)) = false := by simp
      go_wp2
      go_ret
      exact ⟨rfl, hE⟩
end Go.Proofs.Ytldnncamaglofaa
