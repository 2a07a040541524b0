/-
  slices.CompactFunc of revoked serials by revoke.sameSerial.
-/
import Derived.Test.YtldnncamaglofaaRc
import Derived.Test.YtldnncamaglofaaRow
import Derived.Lib.SliceRun
namespace Go.Proofs.Ytldnncamaglofaa
open Go.RowKit

/-- The cells of block g, from its head on, are D's; none of them is frozen. -/
def RowR (W : World) (g : Nat) (D : List Rv) : Prop := g < W.heap.size ∧ (∀ i, i < D.length → W.there g (i * 2) 2) ∧ ∀ i x, D[i]? = some x → W.rangeAt g (i * 2) (rvC x)
theorem RowR.ext {W W' : World} {g : Nat} {D : List Rv} (h : RowR W g D) (k : Ext W W') : RowR W' g D :=
  ⟨Nat.lt_of_lt_of_le h.1 (Below.size k), fun i hi j hj => by
    have := h.2.1 i hi j hj
    exact ⟨by rw [k.cell h.1]; exact this.1, by rw [Below.frozen k (p := ⟨g, i * 2 + j, none⟩) h.1]; exact this.2⟩, fun i x hi => range_ext k h.1 (h.2.2 i x hi)⟩
theorem butR_setCell (w : World) (g o : Nat) (v : Value) : w.grownBy (w.setCell ⟨g, o, none⟩ v) (some g) :=
  ⟨rfl, rfl, rfl, by simp, fun k _ hk => Below.heap_setCell _ _ _ k (fun e => hk (by rw [e]))⟩
theorem butR_setCells (g : Nat) : ∀ (vs : List Value) (o : Nat) (w : World), w.grownBy (w.setCells g o vs) (some g)
  | [], _, w => World.grownBy.refl w _
  | v :: r, o, w => (butR_setCell w g o v).trans (butR_setCells g r (o + 1) _)
theorem butR_ext {w w' : World} (h : Ext w w') (row : Option Nat) : w.grownBy w' row := ⟨Below.os h, Below.tape h, Below.output h, Below.size h, fun k hk _ => Below.block h k hk⟩
theorem RowR.set {W : World} {g : Nat} {D : List Rv} (h : RowR W g D) {k : Nat} (hk : k < D.length) (x : Rv) : RowR (W.setCells g (k * 2) (rvC x)) g (D.set k x) := by
  have hg := butR_setCells g (rvC x) (k * 2) W
  refine ⟨Nat.lt_of_lt_of_le h.1 hg.size, fun i hi => ?_, fun i y hi => ?_⟩
  · rw [List.length_set] at hi
    exact World.there_setCells (h.2.1 i hi) g (k * 2) (rvC x)
  · by_cases e : i = k
    · subst e
      rw [List.getElem?_set_self hk] at hi
      obtain rfl := Option.some.inj hi
      exact World.rangeAt_setCells_same W g (i * 2) (rvC x) (h.2.1 i hk)
    · rw [List.getElem?_set_ne (fun h => e h.symm)] at hi
      exact World.rangeAt_setCells_apart (h.2.2 i y hi) g (k * 2) (rvC x) (.inr (by rw [rvC_length, rvC_length]; omega))
theorem RowR.cut {W : World} {g k : Nat} {D : List Rv} (h : RowR W g D) {vs : List Value} : ∀ i x, i < k → D[i]? = some x → (W.setCells g (k * 2) vs).rangeAt g (i * 2) (rvC x) := fun i x hk hi =>
  World.rangeAt_setCells_apart (h.2.2 i x hi) g (k * 2) vs (.inr (.inl (by rw [rvC_length]; omega)))
theorem run_clearR (w : World) (g o n c : Nat) (hn : 0 < n) (hc : ∀ j, j < n * 2 → (w.cell? ⟨g, o + j, none⟩).isSome = true ∧ w.frozen? ⟨g, o + j, none⟩ = false) :
    ∃ vs, ∀ ty, (Builtin.clear_ #[22] ty #[.slice (some ⟨g, o, none⟩) n c]).run Try.prog w = .ok (.tuple #[]) (w.setCells g o vs) := by
  have hl : (Builtin.zeroCells #[.int .i64 0, .int .i64 0] n).toList.length = n * 2 := by rw [Array.length_toList, size_zeroCells]; rfl
  have h1 : ∀ v ∈ (Builtin.zeroCells #[.int .i64 0, .int .i64 0] n).toList, v.oneCell' = true := by
    intro v hv
    rw [Array.mem_toList_iff] at hv
    unfold Builtin.zeroCells at hv
    obtain ⟨i, _, rfl⟩ := Array.mem_map.1 hv
    have hi : i % 2 = 0 ∨ i % 2 = 1 := by omega
    show ((#[Value.int .i64 0, Value.int .i64 0] : Array Value)[i % 2]!).oneCell' = true
    rcases hi with e | e <;> rw [e] <;> rfl
  have hst := run_storeCells_cells (P := Try.prog) g o (Builtin.zeroCells #[.int .i64 0, .int .i64 0] n).toList 0 w (by rw [hl]; intro j hj; exact (hc j hj).1) (by rw [hl]; intro j hj; exact (hc j hj).2) h1
  simp only [Nat.add_zero] at hst
  obtain ⟨m, rfl⟩ : ∃ m, n = m + 1 := ⟨n - 1, by omega⟩
  refine ⟨(Builtin.zeroCells #[.int .i64 0, .int .i64 0] (m + 1)).toList, fun ty => ?_⟩
  simp [Builtin.clear_, run_underlying Try.underlying22, Try.zeroValue43, Value.cells, hst]

set_option maxRecDepth 100000 in
set_option maxHeartbeats 2000000 in
theorem sameS_calls (x y : Rv) (w : World) : Calls Try.prog 33 #[.agg (rvC x).toArray, .agg (rvC y).toArray] w fun e w' => e = .returned (.bool (decide (x.1 = y.1))) ∧ Ext w w' := by
  obtain ⟨x1, x2⟩ := x
  obtain ⟨y1, y2⟩ := y
  show Calls Try.prog 33 #[.agg #[.int .i64 x1, .int .i64 x2], .agg #[.int .i64 y1, .int .i64 y2]] w fun e w' => e = .returned (.bool (decide (x1 = y1))) ∧ Ext w w'
  obtain ⟨R, hR⟩ : ∃ R, R = decide (x1 = y1) := ⟨_, rfl⟩
  rw [← hR]
  have f1 : (x1 == y1) = R := by rw [hR]; rfl
  clear hR
  go_enter Try.func33, Try.ntmps33
  go_wp2
  go_ret
  exact ⟨rfl, (Ext.alloc _ _).trans (Ext.alloc _ _)⟩
theorem sliceR_from (g n c k : Nat) (hk : k < n) (hn : n ≤ c) (w : World) : (Instr.sliceAt 22 (.slice (some ⟨g, 0, none⟩) n c) (some (.int .i64 (k : Int))) none none).run Try.prog w = .ok (.slice (some ⟨g, k * 2, none⟩) (n - k) (c - k)) w := by
  have e2 : ((sizeOf (Try.prog.elem 22)).run Try.prog w) = .ok 2 w := by kernel_rfl
  rw [run_sliceAt_slice w 22 _ _ _ _ (by kernel_rfl), run_slice_l w 22 (some ⟨g, 0, none⟩) n c (by kernel_rfl) .i64 (k : Int) (by omega) (by omega), e2]
  simp only [Result.andThen, sliced, Int.toNat_natCast]
  rw [if_neg (by omega)]
  simp [Addr.add_mid]
theorem sliceR_to (g n c k : Nat) (hk : k ≤ c) (h0 : 0 < k) (w : World) : (Instr.sliceAt 22 (.slice (some ⟨g, 0, none⟩) n c) none (some (.int .i64 (k : Int))) none).run Try.prog w = .ok (.slice (some ⟨g, 0, none⟩) k c) w := by
  have e2 : ((sizeOf (Try.prog.elem 22)).run Try.prog w) = .ok 2 w := by kernel_rfl
  rw [run_sliceAt_slice w 22 _ _ _ _ (by kernel_rfl), run_slice_h w 22 (some ⟨g, 0, none⟩) n c (by kernel_rfl) .i64 (k : Int) (by omega) (by omega), e2]
  simp only [Result.andThen, sliced, Int.toNat_natCast]
  rw [if_neg (by omega)]
  simp [Addr.add_mid]
theorem RowR.rs {W : World} {g n cap : Nat} {D : List Rv} (h : RowR W g D) (hn : n = D.length) (hc : n ≤ cap) : Rs W (.slice (some ⟨g, 0, none⟩) n cap) D := by
  subst hn
  exact ⟨_, _, rfl, hc, .inr ⟨g, 0, rfl, h.1, fun i x hi => by rw [Nat.zero_add]; exact h.2.2 i x hi⟩⟩
theorem getD_of {l : List Rv} {i : Nat} {x : Rv} (h : l[i]? = some x) : l.getD i (0, 0) = x := by rw [List.getD_eq_getElem?_getD, h]; rfl

set_option maxRecDepth 100000 in
set_option maxHeartbeats 8000000 in
theorem compactRow_calls (g cap : Nat) (d : List Rv) (w : World) (hR : RowR w g d) (hcap : d.length ≤ cap) (hd : d.length ≤ 100000) :
    Calls Try.prog 32 #[.slice (some ⟨g, 0, none⟩) d.length cap, .func (.func 33) #[] #[]] w fun e w' => (∃ v, e = .returned v ∧ Rs w' v (cpt d)) ∧ w.grownBy w' (some g) := by
  obtain ⟨n, hn⟩ : ∃ n, n = d.length := ⟨_, rfl⟩
  rw [← hn] at hcap hd ⊢
  have HD := veil (And.intro hn hR)
  have KS := veil (fun x y W => sameS_calls x y W)
  clear hn hR
  go_enter Try.func32, Try.ntmps32
  by_cases hsm : n < 2
  · have hd0 : decide ((n : Int) < 2) = true := by simp; omega
    have hc : cpt d = d := by
      have h2 : d.length < 2 := by rw [← HD.out.1]; exact hsm
      match d, h2 with
      | [], _ => rfl
      | [_], _ => rfl
    have HC := veil hc
    clear hsm hc
    go_wp2
    go_ret
    exact ⟨⟨_, rfl, by rw [HC.out]; exact HD.out.2.rs HD.out.1 hcap⟩, World.grownBy.refl _ _⟩
  · have hd0 : decide ((n : Int) < 2) = false := by simp; omega
    have HS := veil hsm
    clear hsm
    go_wp2
    go_loopw [5] (fun v wr => ∃ k : Nat, 1 ≤ k ∧ k ≤ n ∧ v = .int .i64 (k : Int) ∧ cpt (d.take k) = d.take k ∧ Ext w wr)
      (fun v _ => n - (intOf v).toNat)
    case atStart =>
      refine ⟨1, by omega, by have := HS.out; omega, rfl, ?_, Ext.refl _⟩
      match d with
      | [] => rfl
      | _ :: _ => rfl
    case round =>
      obtain ⟨k, hk1, hk, rfl, hcp, hE⟩ := hrel
      by_cases hlt : k < n
      · have hd1 : decide ((k : Int) < (n : Int)) = true := by simp; omega
        have hkn : (k : Int) < (n : Int) := by omega
        have hkl : k < d.length := by have := HD.out.1; omega
        have hRw := HD.out.2.ext hE
        have HX := veil (And.intro hRw.1 (hRw.2.2 k _ (rv_get hkl)))
        have HY := veil (And.intro hRw.1 (hRw.2.2 (k - 1) _ (rv_get (show k - 1 < d.length by omega))))
        have hst := cpt_take (l := d) (i := k) (by omega) hkl
        have hxs : (d.getD k (0, 0)).1 = rvS d k := rfl
        have hys : (d.getD (k - 1) (0, 0)).1 = rvS d (k - 1) := rfl
        have htk : d.take (k + 1) = d.take k ++ [d.getD k (0, 0)] := by rw [List.take_add_one, rv_get hkl]; rfl
        generalize d.getD k (0, 0) = x at *
        generalize d.getD (k - 1) (0, 0) = y at *
        have hm1 : (k : Int) - 1 = ((k - 1 : Nat) : Int) := by omega
        obtain ⟨m, hm⟩ : ∃ m, m = k - 1 := ⟨_, rfl⟩
        rw [← hm] at hm1 HY
        have hmn : (m : Int) < (n : Int) := by omega
        have hm0 : (0 : Int) ≤ (m : Int) := by omega
        have HE := veil (And.intro hE (And.intro hcp (And.intro hst (And.intro htk (And.intro hxs (And.intro hys hm))))))
        have KK := veil (fun W => KS.out x y W)
        clear hE hcp hst htk hxs hys hm hRw hkl
        go_upto_region 6 with (fail)
        cases hq : decide (x.1 = y.1) with
        | false =>
          rw [hq] at KK
          have hne : ¬ rvS d k = rvS d (k - 1) := by
            have := of_decide_eq_false hq
            rwa [HE.out.2.2.2.2.1, HE.out.2.2.2.2.2.1] at this
          have HN := veil hne
          clear hq hne
          refine wp_sched 11 [(true, [0, 1, 2, 3, 4, 5, 6, 7, 8, 9, 10])] (by kernel_rfl) (by kernel_rfl) fun Q' hQ' => ?_
          refine' sched_row (A := _) _ rfl (by kernel_rfl) ?_ ?_
          rotate_left
          · intro D' hD' hN'
            have e1 := veil (fun z : Gw D' => up_calls11 hD' (v := .bool false) (fun W _ => KK.out W) z)
            simp only [pickI, consO, List.getElem?_cons_zero, List.getElem?_cons_succ]
            iterate 4 (go_big_quiet_step (fail))
            go_big_quiet_want
            refine quiet_val (.agg (rvC x).toArray) (fun z => run_loadm11 rfl rfl (up_range11 hD' HX.out.1 HX.out.2 z) Try.underlying43 rfl (iRv x)) ?_
            simp only [Act.put, List.setIfInBounds_toArray, List.set_cons_zero, List.set_cons_succ]
            go_big_quiet_on
            iterate 4 (go_big_quiet_step (fail))
            go_big_quiet_want
            refine quiet_val (.agg (rvC y).toArray) (fun z => run_loadm11 rfl rfl (up_range11 hD' HY.out.1 HY.out.2 z) Try.underlying43 rfl (iRv y)) ?_
            simp only [Act.put, List.setIfInBounds_toArray, List.set_cons_zero, List.set_cons_succ]
            go_big_quiet_on
            go_big_quiet_step (exact e1.out _)
            exact wpq_end
          refine sched_end hQ' fun W3 hE3 => ?_
          have HE3 := veil hE3
          clear hE3
          go_wp2
          go_roundw
          case rel =>
            refine ⟨k + 1, by omega, by omega, by go_num, ?_, HE.out.1.trans HE3.out⟩
            rw [HE.out.2.2.1, if_neg HN.out, HE.out.2.1, HE.out.2.2.2.1]
          case measure => simp [intOf]; omega
        | true =>
          rw [hq] at KK
          have heq : rvS d k = rvS d (k - 1) := by
            have := of_decide_eq_true hq
            rwa [HE.out.2.2.2.2.1, HE.out.2.2.2.2.2.1] at this
          have hc1 : cpt (d.take (k + 1)) = d.take k := by rw [HE.out.2.2.1, if_pos heq, HE.out.2.1]
          have HN := veil hc1
          clear hq heq hc1
          refine wp_sched 11 [(true, [0, 1, 2, 3, 4, 5, 6, 7, 8, 9, 10])] (by kernel_rfl) (by kernel_rfl) fun Q' hQ' => ?_
          refine' sched_row (A := _) _ rfl (by kernel_rfl) ?_ ?_
          rotate_left
          · intro D' hD' hN'
            have e1 := veil (fun z : Gw D' => up_calls11 hD' (v := .bool true) (fun W _ => KK.out W) z)
            simp only [pickI, consO, List.getElem?_cons_zero, List.getElem?_cons_succ]
            iterate 4 (go_big_quiet_step (fail))
            go_big_quiet_want
            refine quiet_val (.agg (rvC x).toArray) (fun z => run_loadm11 rfl rfl (up_range11 hD' HX.out.1 HX.out.2 z) Try.underlying43 rfl (iRv x)) ?_
            simp only [Act.put, List.setIfInBounds_toArray, List.set_cons_zero, List.set_cons_succ]
            go_big_quiet_on
            iterate 4 (go_big_quiet_step (fail))
            go_big_quiet_want
            refine quiet_val (.agg (rvC y).toArray) (fun z => run_loadm11 rfl rfl (up_range11 hD' HY.out.1 HY.out.2 z) Try.underlying43 rfl (iRv y)) ?_
            simp only [Act.put, List.setIfInBounds_toArray, List.set_cons_zero, List.set_cons_succ]
            go_big_quiet_on
            go_big_quiet_step (exact e1.out _)
            exact wpq_end
          refine sched_end hQ' fun W3 hE3 => ?_
          have HE3 := veil (HE.out.1.trans hE3)
          have hsl := fun W => sliceR_from g n cap k hlt hcap W
          obtain ⟨r, hr⟩ : ∃ r, r = n - k := ⟨_, rfl⟩
          rw [← hr] at hsl
          have hrb : r ≤ 100000 := by omega
          have HR := veil hr
          clear hE3 hm1 hmn hm0 HX HY KK hr
          go_wp2
          clear hsl
          go_loopw [5, 7] (fun v u wr => ∃ (q j : Nat) (D : List Rv), 1 ≤ j ∧ j ≤ r ∧ v = .int .i64 (q : Int) ∧ u = .int .i64 (j : Int) ∧ q = (cpt (d.take (k + j))).length ∧ q + 1 ≤ k + j ∧ D.length = n ∧ RowR wr g D ∧
              (∀ i, i < q → D[i]? = (cpt (d.take (k + j)))[i]?) ∧ (∀ i, k + j ≤ i + 1 → D[i]? = d[i]?) ∧ w.grownBy wr (some g))
            (fun _ u _ => r - (intOf u).toNat)
          case atStart =>
            refine ⟨k, 1, d, by omega, by have := HR.out; omega, rfl, rfl, ?_, by omega, HD.out.1.symm, HD.out.2.ext HE3.out, fun i hi => ?_, fun i _ => rfl, butR_ext HE3.out _⟩
            · rw [HN.out, List.length_take]; have := HD.out.1; omega
            · rw [HN.out, List.getElem?_take_of_lt hi]
          case round =>
            obtain ⟨q, j, D, hj1, hj, rfl, rfl, hq, hqk, hDl, hRw, hlow, hhigh, hG⟩ := hrel
            by_cases hjr : j < r
            · have hd2 : decide ((j : Int) < (r : Int)) = true := by simp; omega
              have hjn : (j : Int) < (r : Int) := by omega
              have hkj : k + j < d.length := by have := HR.out; have := HD.out.1; omega
              have hX : D[k + j]? = some (d.getD (k + j) (0, 0)) := by rw [hhigh _ (by omega)]; exact rv_get hkj
              have hY : D[k + (j - 1)]? = some (d.getD (k + j - 1) (0, 0)) := by
                rw [show k + (j - 1) = k + j - 1 by omega, hhigh _ (by omega)]
                exact rv_get (by omega)
              have rX := hRw.2.2 _ _ hX
              have rY := hRw.2.2 _ _ hY
              rw [Nat.add_mul] at rX rY
              have hst := cpt_take (l := d) (i := k + j) (by omega) hkj
              have hxs : (d.getD (k + j) (0, 0)).1 = rvS d (k + j) := rfl
              have hys : (d.getD (k + j - 1) (0, 0)).1 = rvS d (k + j - 1) := rfl
              generalize d.getD (k + j) (0, 0) = x2 at *
              generalize d.getD (k + j - 1) (0, 0) = y2 at *
              have hm1 : (j : Int) - 1 = ((j - 1 : Nat) : Int) := by omega
              obtain ⟨m2, hm⟩ : ∃ m, m = j - 1 := ⟨_, rfl⟩
              rw [← hm] at hm1 rY
              have hmn : (m2 : Int) < (r : Int) := by omega
              have hm0 : (0 : Int) ≤ (m2 : Int) := by omega
              have HX := veil (And.intro hRw.1 rX)
              have HY := veil (And.intro hRw.1 rY)
              have hqn : q < n := by have := HR.out; omega
              have hqi : (q : Int) < (n : Int) := by omega
              have HI := veil (And.intro hRw (And.intro hlow (And.intro hhigh (And.intro hG (And.intro hq (And.intro hst (And.intro hxs (And.intro hys (And.intro hX (And.intro hDl hm))))))))))
              have KK := veil (fun W => KS.out x2 y2 W)
              clear rX rY hRw hlow hhigh hG hq hst hxs hys hX hY hDl hm hkj
              go_upto_region 11 with (fail)
              cases hb : decide (x2.1 = y2.1) with
              | true =>
                rw [hb] at KK
                have heq : rvS d (k + j) = rvS d (k + j - 1) := by
                  have := of_decide_eq_true hb
                  rwa [HI.out.2.2.2.2.2.2.1, HI.out.2.2.2.2.2.2.2.1] at this
                have HN2 := veil heq
                clear hb heq
                refine wp_sched 12 [(true, [0, 1, 2, 3, 4, 5, 6, 7, 8, 9, 10, 11])] (by kernel_rfl) (by kernel_rfl) fun Q' hQ' => ?_
                refine' sched_row (A := _) _ rfl (by kernel_rfl) ?_ ?_
                rotate_left
                · intro D' hD' hN'
                  have e1 := veil (fun z : Gw D' => up_calls11 hD' (v := .bool true) (fun W _ => KK.out W) z)
                  simp only [pickI, consO, List.getElem?_cons_zero, List.getElem?_cons_succ]
                  iterate 4 (go_big_quiet_step (fail))
                  go_big_quiet_want
                  refine quiet_val (.agg (rvC x2).toArray) (fun z => run_loadm11 rfl rfl (up_range11 hD' HX.out.1 HX.out.2 z) Try.underlying43 rfl (iRv x2)) ?_
                  simp only [Act.put, List.setIfInBounds_toArray, List.set_cons_zero, List.set_cons_succ]
                  go_big_quiet_on
                  iterate 4 (go_big_quiet_step (fail))
                  go_big_quiet_want
                  refine quiet_val (.agg (rvC y2).toArray) (fun z => run_loadm11 rfl rfl (up_range11 hD' HY.out.1 HY.out.2 z) Try.underlying43 rfl (iRv y2)) ?_
                  simp only [Act.put, List.setIfInBounds_toArray, List.set_cons_zero, List.set_cons_succ]
                  go_big_quiet_on
                  go_big_quiet_step (exact e1.out _)
                  go_big_quiet_step (fail)
                  exact wpq_end
                refine sched_end hQ' fun W4 hE4 => ?_
                have HE4 := veil hE4
                clear hE4 hm1 hmn hm0 HX HY KK
                go_wp2
                go_roundw
                case rel =>
                  have e : cpt (d.take (k + (j + 1))) = cpt (d.take (k + j)) := by rw [← Nat.add_assoc, HI.out.2.2.2.2.2.1, if_pos HN2.out]
                  exact ⟨q, j + 1, D, by omega, by omega, rfl, by go_num, by rw [e]; exact HI.out.2.2.2.2.1, by omega, HI.out.2.2.2.2.2.2.2.2.2.1, HI.out.1.ext HE4.out, by rw [e]; exact HI.out.2.1, fun i hi => HI.out.2.2.1 i (by omega), HI.out.2.2.2.1.trans (butR_ext HE4.out _)⟩
                case measure => simp [intOf]; omega
              | false =>
                rw [hb] at KK
                have hne : ¬ rvS d (k + j) = rvS d (k + j - 1) := by
                  have := of_decide_eq_false hb
                  rwa [HI.out.2.2.2.2.2.2.1, HI.out.2.2.2.2.2.2.2.1] at this
                have HN2 := veil hne
                clear hb hne
                refine wp_sched 12 [(true, [0, 1, 2, 3, 4, 5, 6, 7, 8, 9, 10, 11])] (by kernel_rfl) (by kernel_rfl) fun Q' hQ' => ?_
                refine' sched_row (A := _) _ rfl (by kernel_rfl) ?_ ?_
                rotate_left
                · intro D' hD' hN'
                  have e1 := veil (fun z : Gw D' => up_calls11 hD' (v := .bool false) (fun W _ => KK.out W) z)
                  simp only [pickI, consO, List.getElem?_cons_zero, List.getElem?_cons_succ]
                  iterate 4 (go_big_quiet_step (fail))
                  go_big_quiet_want
                  refine quiet_val (.agg (rvC x2).toArray) (fun z => run_loadm11 rfl rfl (up_range11 hD' HX.out.1 HX.out.2 z) Try.underlying43 rfl (iRv x2)) ?_
                  simp only [Act.put, List.setIfInBounds_toArray, List.set_cons_zero, List.set_cons_succ]
                  go_big_quiet_on
                  iterate 4 (go_big_quiet_step (fail))
                  go_big_quiet_want
                  refine quiet_val (.agg (rvC y2).toArray) (fun z => run_loadm11 rfl rfl (up_range11 hD' HY.out.1 HY.out.2 z) Try.underlying43 rfl (iRv y2)) ?_
                  simp only [Act.put, List.setIfInBounds_toArray, List.set_cons_zero, List.set_cons_succ]
                  go_big_quiet_on
                  go_big_quiet_step (exact e1.out _)
                  go_big_quiet_step (fail)
                  exact wpq_end
                refine sched_end hQ' fun W4 hE4 => ?_
                have hRw4 := HI.out.1.ext hE4
                have HW4 := veil (And.intro hRw4 (And.intro (hRw4.2.1 q (by rw [HI.out.2.2.2.2.2.2.2.2.2.1]; exact hqn)) (And.intro (range_ext hE4 HX.out.1 HX.out.2) hE4)))
                clear hE4 hm1 hmn hm0 HX HY KK hRw4
                go_wp2_with (first
                  | ((with_reducible refine at_slot 55 ?_); refine wpList_load_mid rfl 43 _ rfl g _ rfl (rvC x2) _ HW4.out.2.2.1 Try.underlying43 rfl (iRv x2) ?_)
                  | ((with_reducible refine at_none ?_); refine wpList_store_mid rfl 43 _ _ rfl g (q * 2) (rvC x2).toArray rfl rfl HW4.out.2.1 (iRvA x2) (rvA_one x2) ?_))
                go_roundw
                case rel =>
                  have e : cpt (d.take (k + (j + 1))) = cpt (d.take (k + j)) ++ [x2] := by
                    rw [← Nat.add_assoc, HI.out.2.2.2.2.2.1, if_neg HN2.out]
                  have hq := HI.out.2.2.2.2.1
                  have hDl := HI.out.2.2.2.2.2.2.2.2.2.1
                  refine ⟨q + 1, j + 1, D.set q x2, by omega, by omega, by go_num, by go_num, by rw [e, List.length_append, ← hq]; rfl, by omega, by rw [List.length_set]; exact hDl, HW4.out.1.set (by omega) x2, fun i hi => ?_, fun i hi => ?_, (HI.out.2.2.2.1.trans (butR_ext HW4.out.2.2.2 _)).trans (butR_setCells g _ _ _)⟩
                  · rw [e]
                    by_cases ei : i = q
                    · subst ei
                      rw [List.getElem?_set_self (by omega), List.getElem?_append_right (by omega), ← hq, Nat.sub_self]
                      rfl
                    · rw [List.getElem?_set_ne (fun h => ei h.symm), List.getElem?_append_left (by omega)]
                      exact HI.out.2.1 i (by omega)
                  · rw [List.getElem?_set_ne (by omega)]
                    exact HI.out.2.2.1 i (by omega)
                case measure => simp [intOf]; omega
            · obtain rfl : j = r := by omega
              have hd2 : decide ((j : Int) < (j : Int)) = false := by simp
              have hkr : k + j = d.length := by have := HR.out; have := HD.out.1; omega
              rw [hkr, List.take_length] at hq hlow
              have hq0 : 0 < q := by rw [hq]; exact cpt_1 (by omega)
              have hqn : q < n := by have := HR.out; have := HD.out.1; omega
              have hs1 := fun W => sliceR_from g n cap q hqn hcap W
              have hs2 := fun W => sliceR_to g n cap q (by omega) hq0 W
              obtain ⟨vs, hvs⟩ := run_clearR wr g (q * 2) (n - q) (cap - q) (by omega) (fun i hi => by
                have h1 := hRw.2.1 (q + i / 2) (by omega) (i % 2) (by omega)
                rwa [show (q + i / 2) * 2 + i % 2 = q * 2 + i by omega] at h1)
              obtain ⟨s, hs⟩ : ∃ s, s = n - q := ⟨_, rfl⟩
              rw [← hs] at hvs hs1
              have HF := veil (And.intro hRw (And.intro hlow (And.intro hq (And.intro hDl hG))))
              clear hRw hlow hhigh hq hDl hG hs
              go_wp2
              go_ret
              have hgb := butR_setCells g vs (q * 2) wr
              refine ⟨⟨_, rfl, ⟨some ⟨g, 0, none⟩, cap, by rw [← HF.out.2.2.1]; rfl, by rw [← HF.out.2.2.1]; omega, .inr ⟨g, 0, rfl, Nat.lt_of_lt_of_le HF.out.1.1 hgb.size, fun i x' hi => ?_⟩⟩⟩, HF.out.2.2.2.2.trans hgb⟩
              have hiq : i < q := by rw [HF.out.2.2.1]; exact (List.getElem?_eq_some_iff.1 hi).1
              rw [Nat.zero_add]
              exact HF.out.1.cut i x' hiq ((HF.out.2.1 i hiq).trans hi)
      · obtain rfl : k = n := by omega
        have hd1 : decide ((k : Int) < (k : Int)) = false := by simp
        have e : cpt d = d := by rw [HD.out.1, List.take_length] at hcp; exact hcp
        have HC := veil e
        clear e hcp
        go_wp2
        go_ret
        exact ⟨⟨_, rfl, by rw [HC.out]; exact (HD.out.2.ext hE).rs HD.out.1 hcap⟩, butR_ext hE _⟩
theorem RowR.of {w : World} {base g cap : Nat} {D : List Rv} (h : OwnL 2 rvC w base 43 (.slice (some ⟨g, 0, none⟩) D.length cap) D) : RowR w g D ∧ D.length ≤ cap := by
  have hls := h.ls rvC_length
  rcases h.2 with ⟨e, _⟩ | ⟨g', cap', cur, e, hb, hh, hn, hm, hs, ht⟩
  · cases e
  · injection e with e1 _ e3
    injection e1 with e1
    injection e1 with e1 _ _
    subst e1 e3
    have hlt := (Array.getElem?_eq_some_iff.1 hh).1
    refine ⟨⟨hlt, fun i hi j hj => ⟨?_, by simp [World.frozen?, hh]⟩, fun i x hi => ?_⟩, hn⟩
    · rw [cell_of_row w g _ cur _ _ hh, Array.getElem?_eq_getElem (show i * 2 + j < cur.size by omega)]
      rfl
    · obtain ⟨A, c, e, _, hx⟩ := hls
      injection e with e1 _ _
      rcases hx with h0 | ⟨b, o, rfl, _, hr⟩
      · have := (List.getElem?_eq_some_iff.1 hi).1
        omega
      · injection e1 with e1
        injection e1 with e2 e3 _
        subst e2 e3
        have := hr i x hi
        rwa [Nat.zero_add] at this
set_option maxRecDepth 100000 in
set_option maxHeartbeats 2000000 in
theorem compactR_calls (v : Value) (d : List Rv) (base : Nat) (w : World) (hO : OwnL 2 rvC w base 43 v d) (hd : d.length ≤ 100000) :
    Calls Try.prog 32 #[v, .func (.func 33) #[] #[]] w fun e w' => (∃ v', e = .returned v' ∧ Rs w' v' (cpt d)) ∧ w.grownBy w' v.ownBlock := by
  rcases hO.2 with ⟨rfl, h0⟩ | ⟨g, cap, cur, rfl, _⟩
  · obtain rfl : d = [] := List.length_eq_zero_iff.1 h0
    go_enter Try.func32, Try.ntmps32
    go_wp2
    go_ret
    exact ⟨⟨_, rfl, Ls.nil _ _ _⟩, World.grownBy.refl _ _⟩
  · obtain ⟨hR, hc⟩ := RowR.of hO
    exact compactRow_calls g cap d w hR hc hd
end Go.Proofs.Ytldnncamaglofaa
