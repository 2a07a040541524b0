/-
  tlv.Get: the landed package's own.
-/
import Derived.Test.YtldnncamaglofaaTG
namespace Go.Proofs.Ytldnncamaglofaa
open Go.RowKit

theorem szB_long {D : List Nat} (h0 : 0 < D.length) (h : D.length < szB D) : parse D = none := by
  unfold szB at h
  by_cases h3 : D.length < 3
  · exact parse_two h3 h0
  · rw [if_neg h3] at h
    have := parse_long (bs := D) (a := 0) (n := 256 * D.getD 1 0 + D.getD 2 0) (by omega) rfl (by omega)
    rwa [List.drop_zero] at this
theorem szB_3 {D : List Nat} (h : szB D ≤ D.length) : 3 ≤ D.length := by
  unfold szB at h
  by_cases h3 : D.length < 3
  · rw [if_pos h3] at h; omega
  · omega
theorem szB_ge (D : List Nat) : 3 ≤ szB D := by unfold szB; split <;> omega
theorem szB_step {D : List Nat} {N : Nat} (hN : szB D = 3 + N) (h3 : 3 ≤ D.length) (h : 3 + N ≤ D.length) :
    parse D = (parse (D.drop (3 + N))).map ((((D.getD 0 0 : Nat) : Int), (D.drop 3).take N) :: ·) := by
  unfold szB at hN
  rw [if_neg (by omega)] at hN
  have := parse_more (bs := D) (a := 0) (n := N) (by omega) (by show N = 256 * D.getD 1 0 + D.getD 2 0; omega) (by omega)
  rwa [List.drop_zero, Nat.zero_add] at this
theorem get_of_false {bs D : List Nat} {fs : List Fd} (h : parse bs = (parse D).map (fs ++ ·)) (hl : 64 < fs.length) : getFs bs = none := by
  rw [getFs_parse, h]
  cases parse D with
  | none => rfl
  | some x =>
    have hm : mayFs (fs ++ x) = false := decide_eq_false fun hh => by have := hh.1; rw [List.length_append] at this; omega
    simp [hm]
def lenV : Value → Nat
  | .slice _ n _ => n
  | _ => 0
theorem run_slice_lowv {P : Program} {o : Oper} {a : Act} {t : TypeId} {x z : Operand} {v v' vz : Value} {W : World} (ho : o.op = .slice t x (some z) none none) (hx : a.eval x = v) (hz : a.eval z = vz)
    (h : (Instr.sliceAt t v (some vz) none none).run P W = .ok v' W) : (execOp a.eval o).run P W = .ok (.value v') W := by
  unfold execOp
  simp only [ho, hx, hz, Option.map_some, Option.map_none, Sem.run_bind, h, Result.andThen_ok, Sem.run_pure]
theorem cut_from8 (A : Option Addr) (r c m : Nat) (hm : m ≤ r) (w : World) {y : Int} (hy : y = (m : Int)) : (Instr.sliceAt 23 (.slice A r c) (some (.int .i64 y)) none none).run Try.prog w = .ok (.slice (cutA A m c) (r - m) (c - m)) w := by
  subst hy
  exact cut_from A r c m hm w
theorem bs_drop {w : World} {A : Option Addr} {D : List Nat} {c : Nat} (h : Bs w A D) (m : Nat) (hm : m ≤ D.length) (hc : D.length ≤ c) : Bs w (cutA A m c) (D.drop m) := by
  have := h.cut m (n := D.length - m) (by omega) hc
  rwa [List.take_of_length_le (by rw [List.length_drop]; omega)] at this
/-- A call whose answer hangs on the world. -/
theorem sched_fun {P : Program} {Q : Exit → Act → World → Prop} {l : List Oper} {n k i d : Nat} {r : Sched} {a : Act} {w : World} {xs : List Operand} {ts : Array TypeId} {args : List Value} {R : Value → World → Prop} (o : Oper) (ho : l[i]? = some o) (hg : o.guard = none) (hd : o.dst = some d)
    (hop : o.op = .call { callee := .value (.func k), args := xs.toArray, argTypes := ts }) (hx : xs.map a.eval = args)
    (he : ∀ W, (callFunc k args.toArray).run P W = .ok (.enter k args.toArray) W) (hc : ∀ W, Ext w W → Calls P k args.toArray W fun e W' => ∃ v, e = .returned v ∧ Ext W W' ∧ R v W')
    (h : ∀ v W, Ext w W → R v W → wpSched P l Q n r (a.put (some d) v) W) : wpSched P l Q n ((false, [i]) :: r) a w := by
  refine sched_one o ho hg fun W hW => ?_
  have h1 : execOp a.eval o = callFunc k (#[] ++ xs.toArray.map a.eval ++ #[]) := by
    cases o
    subst hop
    rfl
  have h2 : (execOp a.eval o).run P W = .ok (.enter k args.toArray) W := by
    rw [h1, List.map_toArray, hx]
    simpa using he W
  unfold Oper.wp
  rw [h2, Oper.upon_enter]
  refine (hc W hW).mono ?_
  rintro e W' ⟨v, rfl, hE, hR⟩
  show (i < n → Ext W W') ∧ _
  rw [hd]
  exact ⟨fun _ => hE, h v W' (hW.trans hE) hR⟩
theorem enter_in {P : Program} {f : FuncId} {fn : Func} {c : Code} (hf : P.funcs[f]? = some fn) (hname : (fn.name == "runtime.NumGoroutine") = false) (hb : fn.body = some c) (args : Array Value) (w : World) :
    (callFunc f args).run P w = .ok (.enter f args) w := by
  have hn : ¬ fn.name = "runtime.NumGoroutine" := by simpa using hname
  simp [callFunc, go_sem, hf, hb, hn]

set_option maxRecDepth 100000 in
set_option maxHeartbeats 4000000 in
theorem get8_calls (A : Option Addr) (m c : Nat) (bs : List Nat) (hm : m = bs.length) (hmc : m ≤ c) (hle : m ≤ 100000000) (w : World) (hS : Bs w A bs) :
    Calls Try.prog 25 #[.slice A m c] w fun e w' => ∃ x ev, e = .returned (.tuple #[x, ev]) ∧ Ext w w' ∧ GetA w' bs x ev := by
  have HS := veil (And.intro hm (And.intro hmc (And.intro hS hle)))
  clear hS hm hmc hle
  go_enter Try.func25, Try.ntmps25
  go_wp2
  go_loopw [0, 4] (fun s v wr => ∃ (A : Option Addr) (m c : Nat) (D : List Nat) (fs : List Fd), s = .slice A m c ∧ m = D.length ∧ m ≤ c ∧ m ≤ 100000000 ∧ Bs w A D ∧ OwnFs wr w.heap.size v fs ∧ fs.length ≤ 65 ∧ parse bs = (parse D).map (fs ++ ·) ∧ Ext w wr)
    (fun s _ _ => lenV s)
  case atStart => exact ⟨A, m, c, bs, [], rfl, HS.out.1, HS.out.2.1, HS.out.2.2.2, HS.out.2.2.1, OwnFs.nil _ _, by simp, by simp, Ext.refl _⟩
  case round =>
    obtain ⟨A, m, c, D, fs, rfl, hm, hmc, hle, hB, hO, hfl, hpar, hE⟩ := hrel
    have HO := veil (And.intro hO (And.intro hfl hpar))
    have HB := veil (And.intro hm (And.intro hB hmc))
    obtain ⟨AL, cl, hv, hcl, _⟩ := hO.fl.2
    obtain ⟨k, hk⟩ : ∃ k, k = fs.length := ⟨_, rfl⟩
    rw [← hk] at hv hcl hfl
    have HK := veil hk
    clear hO hpar hm hB hk
    have KM := veil (may8_calls _ fs wr HO.out.1.fl (by have := HK.out; omega))
    subst hv
    by_cases hlt : 0 < m
    · have hd1 : decide ((0 : Int) < (m : Int)) = true := by simp; omega
      have hd1' : decide (0 < m) = true := by simp; omega
      by_cases hk : (k : Int) ≤ 64
      · have hd2 : decide ((k : Int) ≤ 64) = true := decide_eq_true hk
        have KZ := veil (sizeFirst_calls A m c D HB.out.1 wr (HB.out.2.1.ext hE))
        have HZ3 := szB_ge D
        obtain ⟨N, hN⟩ : ∃ N, szB D = 3 + N := ⟨szB D - 3, by omega⟩
        rw [hN] at KZ
        have HN := veil hN
        clear HZ3 hN
        go_upto_region 4 with (go_at_call 37; refine KZ.out.mono ?_; rintro e w1 ⟨rfl, hE1⟩)
        have HE1 := veil (hE.trans hE1)
        have hO1 := HO.out.1.keep hE1
        have HO1 := veil hO1
        clear hO1 KM hE1 KZ
        by_cases h4 : m < 3 + N
        · have hd3 : decide ((m : Int) < 3 + (N : Int)) = true := by simp; omega
          have hn : getFs bs = none := by
            rw [getFs_parse, HO.out.2.2, szB_long (by have := HB.out.1; omega) (by have := HB.out.1; rw [HN.out]; omega)]
            rfl
          go_wp2
          go_ret2
          exact ⟨_, _, rfl, HE1.out, .inl ⟨hn, ⟨none, 0, rfl⟩, rfl⟩⟩
        · have hd3 : decide ((m : Int) < 3 + (N : Int)) = false := by simp; omega
          have h3m : 3 ≤ m := by have := HB.out.1; have := szB_3 (D := D) (by rw [HN.out]; omega); omega
          have hst := szB_step HN.out (by have := HB.out.1; omega : 3 ≤ D.length) (by have := HB.out.1; omega)
          have hbt := HB.out.2.1.ext HE1.out
          obtain ⟨b, o, hA, hbl, c0⟩ := hbt.cell (j := 0) (by have := HB.out.1; omega)
          rw [Nat.add_zero] at c0
          have l0 := HB.out.2.1.1.getD 0
          obtain ⟨T, hT⟩ : ∃ T, T = D.getD 0 0 := ⟨_, rfl⟩
          rw [← hT] at c0 l0 hst
          have k0 : (T : Int) ≤ 255 := by omega
          have i0 : (0 : Int) < (m : Int) := by omega
          have HST := veil (And.intro hst hbt)
          have hbd := bs_drop (c := c) HB.out.2.1 (3 + N) (by have := HB.out.1; omega) (by have := HB.out.1; omega)
          have HBD := veil hbd
          clear hst hbt hT l0 hbd
          subst hA
          go_upto_region 6 with (fail)
          refine wp_sched 11 [(true, [0, 1, 2, 3, 4, 5, 6, 7]), (false, [8]), (true, [9]), (false, [10]), (false, [11]), (false, [12])] (by kernel_rfl) (by kernel_rfl) fun Q' hQ' => ?_
          refine' sched_row (A := _) _ rfl (by kernel_rfl) ?h1 ?h2
          case h1 =>
            intro D' hD hN'
            have d0 := hD.cell c0
            simp only [pickI, consO, List.getElem?_cons_zero, List.getElem?_cons_succ]
            iterate 7 (go_big_quiet_step (fail))
            go_big_quiet_want
            refine quiet_val (.slice (cutA (some ⟨b, o, none⟩) 3 c) N (c - 3)) (fun x => run_slice_v rfl rfl rfl rfl (cut_mid _ _ _ 3 N (by omega) _ rfl (by omega))) ?_
            simp only [Act.put, List.setIfInBounds_toArray, List.set_cons_zero, List.set_cons_succ]
            go_big_quiet_on
            exact wpq_end
          have hl : N = ((D.drop 3).take N).length := by rw [List.length_take, List.length_drop]; have := HB.out.1; omega
          have hBc := HST.out.2.cut 3 (n := N) (c := c) (by have := HB.out.1; omega) (by have := HB.out.1; omega)
          have HC := veil (And.intro hl hBc)
          clear hl hBc
          refine sched_fun (R := fun v W => ∃ A' c', v = .slice A' N c' ∧ N ≤ c' ∧ Bs W A' ((D.drop 3).take N) ∧ Fresh w1 A' ((D.drop 3).take N)) _ rfl rfl rfl rfl rfl (enter_in Try.func38 rfl rfl _) (fun W hW => (clone8_calls _ N (c - 3) ((D.drop 3).take N) HC.out.1 (by omega) W (HC.out.2.ext hW)).mono fun e W' ⟨A', c', he, hE', hc', hB', hF'⟩ => ⟨_, he, hE', A', c', rfl, hc', hB', hF'.imp id fun h b o e => Nat.le_trans (Below.size hW) (h b o e)⟩) ?_
          rintro _ W2 hE2 ⟨A', c', rfl, hc', hB', hF'⟩
          simp only [Act.put, List.setIfInBounds_toArray, List.set_cons_zero, List.set_cons_succ]
          refine' sched_row (A := _) _ rfl (by kernel_rfl) ?k1 ?k2
          case k1 =>
            intro D' hD hN'
            simp only [pickI, consO, List.getElem?_cons_zero, List.getElem?_cons_succ]
            repeat (go_big_quiet_step (fail))
            exact wpq_end
          refine sched_build (vs := [(0, .agg #[.int .i64 (T : Int), .slice A' N c'])]) (C := #[.int .i64 (T : Int), .slice A' N c']) (e := 48) _ rfl rfl rfl rfl rfl (fun W => by simp [Instr.buildSlice, go_sem]) ?_
          intro g2 W3 hg2 hgb2 hE3
          simp only [Act.put, List.setIfInBounds_toArray, List.set_cons_zero, List.set_cons_succ]
          have hEW3 := hE2.trans hE3
          have hown3 := HO1.out.keep hEW3
          have hoff : Off A' ((D.drop 3).take N) (Value.ownBlock (.slice AL k cl)) := hF'.off fun k hk => (HO1.out.lt hk).2
          have hBn := hB'.ext hE3
          have hbase := Nat.le_trans (Below.size HE1.out) (Below.size hEW3)
          have hNl := HC.out.1
          have hfl9 : fs.length ≤ 1000000000 := by have := HK.out; omega
          rw [hNl] at hgb2 hc'
          refine sched_append_fd (f := ((T : Int), (D.drop 3).take N)) (al := (A', c')) _ rfl rfl rfl rfl rfl rfl (by decide) hown3 hgb2 hc' hBn hoff hfl9 hbase ?_
          intro v' W4 W5 hE4 hO5 hG5
          simp only [Act.put, List.setIfInBounds_toArray, List.set_cons_zero, List.set_cons_succ]
          have hE5 : Ext w W5 := (HE1.out.trans (hEW3.trans hE4)).grown hG5 (Below.size (HE1.out.trans (hEW3.trans hE4))) fun k hk => (HO1.out.lt hk).1
          have HO5 := veil (And.intro hO5 hE5)
          clear hown3 hoff hBn hbase hNl hgb2 hc' hO5 hE5 hG5
          refine sched_assign v' _ rfl rfl rfl rfl rfl ?_
          intro W6 hE6
          simp only [Act.put, List.setIfInBounds_toArray, List.set_cons_zero, List.set_cons_succ]
          refine sched_end hQ' fun W7 hE7 => ?_
          have hle3 : 3 + N ≤ m := by omega
          go_wp2_with ((with_reducible refine at_slot 35 ?_); refine wpl_val (.slice (cutA (some ⟨b, o, none⟩) (3 + N) c) (m - (3 + N)) (c - (3 + N))) rfl (run_slice_lowv rfl rfl rfl (cut_from8 _ _ _ (3 + N) hle3 _ (by omega))) ?_)
          go_roundw
          case rel =>
            refine ⟨_, m - (3 + N), c - (3 + N), D.drop (3 + N), fs ++ [((T : Int), (D.drop 3).take N)], rfl, by rw [List.length_drop, ← HB.out.1], by omega, by omega, HBD.out, (HO5.out.1.keep hE6).keep hE7, ?_, ?_, HO5.out.2.trans (hE6.trans hE7)⟩
            · rw [List.length_append, List.length_singleton]; have := HK.out; omega
            · rw [HO.out.2.2, HST.out.1]
              cases parse (D.drop (3 + N)) with
              | none => rfl
              | some x => simp
          case measure => simp [lenV]; omega
      · have hd2 : decide ((k : Int) ≤ 64) = false := decide_eq_false hk
        have hmay : mayFs fs = false := decide_eq_false fun hh => by have := hh.1; have := HK.out; omega
        rw [hmay] at KM
        have HE := veil hE
        clear hE hmay
        go_wp2_with (go_at_call 34; refine KM.out.mono ?_; rintro e w2 ⟨rfl, hE2⟩)
        go_ret2
        exact ⟨_, _, rfl, HE.out.trans hE2, .inl ⟨get_of_false HO.out.2.2 (by have := HK.out; omega), ⟨none, 0, rfl⟩, rfl⟩⟩
    · have hd1 : decide ((0 : Int) < (m : Int)) = false := by simp; omega
      have hd1' : decide (0 < m) = false := by simp; omega
      have hp : parse bs = some fs := by
        rw [HO.out.2.2, List.length_eq_zero_iff.1 (show D.length = 0 by have := HB.out.1; omega), parse_nil]
        simp
      have HP := veil (And.intro hE (And.intro hp HO.out.1.fl))
      cases hmay : mayFs fs with
      | false =>
        rw [hmay] at KM
        have hn : getFs bs = none := by
          rw [getFs_parse, hp]
          simp [hmay]
        have HN := veil hn
        clear hE hmay hp hn
        go_wp2_with (go_at_call 34; refine KM.out.mono ?_; rintro e w2 ⟨rfl, hE2⟩)
        go_ret2
        exact ⟨_, _, rfl, HP.out.1.trans hE2, .inl ⟨HN.out, ⟨none, 0, rfl⟩, rfl⟩⟩
      | true =>
        rw [hmay] at KM
        have hn : getFs bs = some fs := by
          rw [getFs_parse, hp]
          simp [hmay]
        have HN := veil hn
        clear hE hmay hp hn
        go_wp2_with (go_at_call 34; refine KM.out.mono ?_; rintro e w2 ⟨rfl, hE2⟩)
        go_ret2
        exact ⟨_, _, rfl, HP.out.1.trans hE2, .inr ⟨fs, HN.out, rfl, HP.out.2.2.ext hE2⟩⟩
end Go.Proofs.Ytldnncamaglofaa
