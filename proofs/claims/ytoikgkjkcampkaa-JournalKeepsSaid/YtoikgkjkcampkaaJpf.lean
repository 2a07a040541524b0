/-
  The landed journal: size, area, read.
-/
import Derived.Test.YtoikgkjkcampkaaJpe
namespace Go.Proofs.Ytoikgkjkcampkaa
open Go.RowKit

theorem Up.callJ {P : Program} {w : World} {D : World → Prop} (h : Up w D) {f : FuncId} {args : Array Value} {v : Value} (k : ∀ W, Ext w W → Calls P f args W fun _e w' => _e = .returned v ∧ Ext W w') (x : Gw D) :
    Calls P f args x.val fun _e w' => _e = .returned v ∧ ∃ y : Gw D, w' = y.val :=
  (k _ (h.grown _ x.property)).mono fun _ w' ⟨he, hE⟩ => ⟨he, ⟨w', h.up _ _ x.property hE⟩, rfl⟩
theorem iSl : (Try.prog.info? 45).map (·.size) = some 2 := by kernel_rfl
theorem sl_one (x y : Int) : (#[Value.int .u64 x, Value.int .i64 y] : Array Value).all (·.oneCell') = true := by simp [Value.oneCell']
theorem be8_lt {bs : List Nat} (h : Byt bs) (h8 : bs.length = 8) : be8 bs < 18446744073709551616 := by
  have := valB_lt8 h 8 (by omega)
  rw [List.take_of_length_le (by omega)] at this
  exact this
def jf (g t e : Nat) (j : Nat) : Value := match j with
  | 0 => .pointer (some ⟨g, 0, none⟩)
  | 1 => .int .u64 (t : Int)
  | 2 => .int .i64 (e : Int)
  | 3 => .bool false
  | _ => .slice none 0 0
/-- A journal in block q: its flash, its turn, its end. -/
def Jou (w : World) (q g t e : Nat) : Prop := w.rowIs q 47 5 (jf g t e)
section
variable {w w' : World} {q g t e : Nat} {F : Nat → Prop}
theorem Jou.chg (h : Jou w q g t e) (k : Chg F w w') (hn : ¬ F q) : Jou w' q g t e := row_chg h k hn
theorem Jou.ext (h : Jou w q g t e) (k : Ext w w') : Jou w' q g t e := h.chg (Chg.of_ext (F := fun _ => False) k) id
theorem Jou.c0 (h : Jou w q g t e) : w.cell? ⟨q, 0, none⟩ = some (.pointer (some ⟨g, 0, none⟩)) := World.rowIs.cell h (i := 0) (by omega)
theorem Jou.c1 (h : Jou w q g t e) : w.cell? ⟨q, 1, none⟩ = some (.int .u64 (t : Int)) := World.rowIs.cell h (i := 1) (by omega)
theorem Jou.c2 (h : Jou w q g t e) : w.cell? ⟨q, 2, none⟩ = some (.int .i64 (e : Int)) := World.rowIs.cell h (i := 2) (by omega)
theorem Jou.c3 (h : Jou w q g t e) : w.cell? ⟨q, 3, none⟩ = some (.bool false) := World.rowIs.cell h (i := 3) (by omega)
end

set_option maxRecDepth 100000 in
set_option maxHeartbeats 4000000 in
theorem jsize_calls (q g h t e : Nat) (B : List Nat) (w : World) (hF : Fla w g h B) (hJ : Jou w q g t e) :
    Calls Try.prog 21 #[.pointer (some ⟨q, 0, none⟩)] w fun e w' => e = .returned (.int .i64 ((B.length : Int) - 48)) ∧ Ext w w' := by
  have KS := veil (fsize_calls g h B w hF)
  have k0 := hF.many
  have c0 := hJ.c0
  clear hF hJ
  obtain ⟨N, hN⟩ : ∃ N, N = B.length := ⟨_, rfl⟩
  rw [← hN] at k0 KS ⊢
  clear hN
  go_enter Try.func21, Try.ntmps21
  go_wp2_with (go_at_call 12; refine KS.out.mono ?_; rintro _ w1 ⟨rfl, hE1⟩)
  go_ret
  exact ⟨rfl, hE1⟩

set_option maxRecDepth 100000 in
set_option maxHeartbeats 4000000 in
theorem area_calls (q g h t e n : Nat) (B : List Nat) (w : World) (hF : Fla w g h B) (hJ : Jou w q g t e) (hn : 48 + n ≤ B.length) :
    Calls Try.prog 18 #[.pointer (some ⟨q, 0, none⟩), .int .i64 (n : Int)] w fun e w' => ∃ k, e = .returned (.slice (some ⟨k, 0, none⟩) n n) ∧ Ext w w' ∧ w.heap.size ≤ k ∧ Bs w' (some ⟨k, 0, none⟩) (seg B 48 n) := by
  have KS := veil (show Calls Try.prog 25 #[.pointer (some ⟨g, 0, none⟩), .int .i64 48, .int .i64 (n : Int)] w _ from fread_calls g h B 48 n hn w hF)
  have c0 := hJ.c0
  clear hF hJ hn
  go_enter Try.func18, Try.ntmps18
  go_wp2_with (go_at_call 25; refine KS.out.mono ?_; rintro _ w1 ⟨k, rfl, hE1, hk, hB⟩)
  go_ret
  exact ⟨k, rfl, hE1, hk, hB⟩

set_option maxRecDepth 100000 in
set_option maxHeartbeats 4000000 in
theorem jread_calls (q g h t e x : Nat) (hx : x < 2) (B : List Nat) (h64 : 64 ≤ B.length) (w : World) (hF : Fla w g h B) (hJ : Jou w q g t e) :
    Calls Try.prog 22 #[.pointer (some ⟨q, 0, none⟩), .int .i64 (x : Int)] w fun e w' => ∃ E : Nat, e = .returned (.agg #[.int .u64 (((slotT B x).1 : Nat) : Int), .int .i64 (E : Int)]) ∧ Ext w w' ∧ (0 < (slotT B x).1 → E = (slotT B x).2) := by
  have KR := veil (fun W (h' : Ext w W) => show Calls Try.prog 25 #[.pointer (some ⟨g, 0, none⟩), .int .i64 ((x : Int) * 24), .int .i64 24] W _ from by
    have := fread_calls g h B (x * 24) 24 (by omega) W (hF.ext h')
    rwa [show ((x * 24 : Nat) : Int) = (x : Int) * 24 by omega] at this)
  have KS := veil (fun W (h' : Ext w W) => jsize_calls q g h t e B W (hF.ext h') (hJ.ext h'))
  have c0 := hJ.c0
  have k0 := hF.many
  obtain ⟨S, hS⟩ : ∃ S, S = seg B (x * 24) 24 := ⟨_, rfl⟩
  have hl : S.length = 24 := by rw [hS]; exact seg_len (by omega)
  have hby : Byt S := by rw [hS]; exact hF.byt.seg _ _
  have s1 : be8 (seg B (24 * x) 8) = be8 (S.take 8) := by rw [show S.take 8 = seg S 0 8 from rfl, hS, seg_seg (by omega), Nat.mul_comm]; rfl
  have s2 : be8 (seg B (24 * x + 8) 8) = be8 ((S.drop 8).take 8) := by rw [show (S.drop 8).take 8 = seg S 8 8 from rfl, hS, seg_seg (by omega), Nat.mul_comm]
  have s3 : be8 (seg B (24 * x + 16) 8) = be8 ((S.drop 16).take 8) := by rw [show (S.drop 16).take 8 = seg S 16 8 from rfl, hS, seg_seg (by omega), Nat.mul_comm]
  have hsl : slotT B x = if be8 (S.take 8) = be8 ((S.drop 16).take 8) ∧ be8 (S.take 8) ≠ 0 ∧ be8 (S.take 8) < 4611686018427387904 ∧ be8 ((S.drop 8).take 8) ≤ B.length - 48 then (be8 (S.take 8), be8 ((S.drop 8).take 8)) else (0, 0) := by
    unfold slotT
    rw [s1, s2, s3]
  obtain ⟨P, hP⟩ : ∃ P, P = slotT B x := ⟨_, rfl⟩
  rw [← hP]
  rw [hsl] at hP
  have l1 : (S.take 8).length = 8 := by rw [List.length_take]; omega
  have l2 : ((S.drop 8).take 8).length = 8 := by rw [List.length_take, List.length_drop]; omega
  have l3 : ((S.drop 16).take 8).length = 8 := by rw [List.length_take, List.length_drop]; omega
  have b1 := be8_lt (hby.take 8) l1
  have b2 := be8_lt ((hby.drop 8).take 8) l2
  have b3 := be8_lt ((hby.drop 16).take 8) l3
  rw [← hS] at KR
  obtain ⟨N, hN⟩ : ∃ N, N = B.length := ⟨_, rfl⟩
  rw [← hN] at KS k0 h64 hP
  have HJ := veil hJ
  have HL := veil (And.intro hl (And.intro l1 (And.intro l2 l3)))
  clear hF hJ hS hl hby s1 s2 s3 hsl l1 l2 l3 hN
  go_enter Try.func22, Try.ntmps22
  go_upto_region 1 with (fail)
  have hE0 := Ext.alloc w (.cells #[.int .u64 0, .int .i64 0] 45)
  have hg := heap_new w (.cells #[.int .u64 0, .int .i64 0] 45)
  have c0 := (hE0.cell (World.rowIs.lt HJ.out)).trans c0
  generalize w.alloc (.cells #[.int .u64 0, .int .i64 0] 45) = W1 at *
  obtain ⟨gr, hgr⟩ : ∃ k, k = w.heap.size := ⟨_, rfl⟩
  rw [← hgr] at hg ⊢
  have HG := veil (And.intro hg (And.intro hgr hE0))
  clear hg hgr hE0
  go_upto_region 2 with (go_at_call 25; refine (KR.out _ HG.out.2.2).mono ?_; rintro _ w2 ⟨k, rfl, hE1, hk, hB⟩)
  have H2 := veil (And.intro hE1 hB)
  clear hE1 hB hk c0 KR
  have k1 := fun W : World => cut_to_b (some ⟨k, 0, none⟩) 24 24 8 (by omega) W (y := 8) rfl
  have k2 := fun W : World => cut_mid (some ⟨k, 0, none⟩) 24 24 8 8 (by omega) W (x := 8) (y := 16) rfl rfl
  have k3 := fun W : World => show (Instr.sliceAt 23 (.slice (some ⟨k, 0, none⟩) 24 24) (some (.int .i64 16)) none none).run Try.prog W = .ok (.slice (cutA (some ⟨k, 0, none⟩) 16 24) 8 8) W from cut_from (some ⟨k, 0, none⟩) 24 24 16 (by omega) W
  have q1 := fun W (h' : Ext w2 W) => jof_calls (some ⟨k, 0, none⟩) 24 (S.take 8) HL.out.2.1.symm W (by
    have := (H2.out.2.cut (c := 24) 0 (n := 8) (by have := HL.out.1; omega) (by have := HL.out.1; omega)).ext h'
    rwa [cutA_zero] at this)
  have q2 := fun W (h' : Ext w2 W) => jof_calls (cutA (some ⟨k, 0, none⟩) 8 24) 16 ((S.drop 8).take 8) HL.out.2.2.1.symm W ((H2.out.2.cut (c := 24) 8 (n := 8) (by have := HL.out.1; omega) (by have := HL.out.1; omega)).ext h')
  have q3 := fun W (h' : Ext w2 W) => jof_calls (cutA (some ⟨k, 0, none⟩) 16 24) 8 ((S.drop 16).take 8) HL.out.2.2.2.symm W ((H2.out.2.cut (c := 24) 16 (n := 8) (by have := HL.out.1; omega) (by have := HL.out.1; omega)).ext h')
  generalize cutA (some ⟨k, 0, none⟩) 8 24 = A8 at *
  generalize cutA (some ⟨k, 0, none⟩) 16 24 = A16 at *
  generalize be8 (S.take 8) = T at *
  generalize be8 ((S.drop 8).take 8) = E at *
  generalize be8 ((S.drop 16).take 8) = T2 at *
  have Q1 := veil q1
  have Q2 := veil q2
  have Q3 := veil q3
  clear q1 q2 q3
  refine wp_sched 12 [(true, List.range 12)] (by kernel_rfl) (by kernel_rfl) fun Q' hQ' => ?_
  refine' sched_row (A := _) _ rfl (by kernel_rfl) ?_ ?_
  rotate_left
  · intro D hD hN'
    have C1 := veil (fun x : Gw D => hD.callJ Q1.out x)
    have C2 := veil (fun x : Gw D => hD.callJ Q2.out x)
    have C3 := veil (fun x : Gw D => hD.callJ Q3.out x)
    simp only [List.range, List.range.loop, pickI, consO, List.getElem?_cons_zero, List.getElem?_cons_succ]
    go_big_quiet_step (fail)
    go_big_quiet_want
    refine quiet_val (.slice (some ⟨k, 0, none⟩) 8 24) (fun x => run_slice_hv rfl rfl rfl (k1 x.val)) ?_
    simp only [Act.put, List.setIfInBounds_toArray, List.set_cons_zero, List.set_cons_succ]
    go_big_quiet_on
    iterate 2 (go_big_quiet_step (exact C1.out _))
    go_big_quiet_want
    refine quiet_val (.slice A8 8 16) (fun x => run_slice_v rfl rfl rfl rfl (k2 x.val)) ?_
    simp only [Act.put, List.setIfInBounds_toArray, List.set_cons_zero, List.set_cons_succ]
    go_big_quiet_on
    iterate 2 (go_big_quiet_step (exact C2.out _))
    go_big_quiet_want
    refine quiet_val (.slice A16 8 8) (fun x => run_slice_lJ rfl rfl rfl (k3 x.val)) ?_
    simp only [Act.put, List.setIfInBounds_toArray, List.set_cons_zero, List.set_cons_succ]
    go_big_quiet_on
    repeat (go_big_quiet_step (exact C3.out _))
    exact wpq_end
  refine sched_end hQ' fun W4 hE4 => ?_
  have hg4 := (HG.out.2.2.trans (H2.out.1.trans hE4))
  have hgb := (H2.out.1.trans hE4).block HG.out.1
  have H4 := veil (And.intro hg4 hgb)
  have KS4 := veil (KS.out W4 hg4)
  clear hE4 hg4 hgb k1 k2 k3 Q1 Q2 Q3 KS c0
  by_cases a1 : T = T2
  · subst a1
    have f1 : ((T : Int) == (T : Int)) = true := by simp
    by_cases a2 : 4611686018427387904 ≤ T
    · have f2 : decide ((4611686018427387904 : Int) ≤ (T : Int)) = true := decide_eq_true (by omega)
      have hz : P.1 = 0 := by rw [hP, if_neg fun k => by have := k.2.2.1; omega]
      have HZ := veil hz
      clear hz hP
      go_wp2_with ((with_reducible refine at_none ?_); refine wpl_store _ rfl rfl rfl rfl (cells := #[.int .u64 (((0 : Nat) : Nat) : Int), .int .i64 (((0 : Nat) : Nat) : Int)]) rfl (H4.out.2) iSl rfl (sl_one _ _) ?_; intro W6 hb6 hg6)
      exact bodyPost_ret (results_cell_row rfl _ _ gr 45 #[.int .u64 (((0 : Nat) : Nat) : Int), .int .i64 (((0 : Nat) : Nat) : Int)] (0, 0) _ rfl hg6 Try.underlying45 rfl iSl) rfl ⟨0, by rw [HZ.out], (Chg.of_but hb6).new H4.out.1 (fun z hz e => by have := HG.out.2.1; omega), fun k => by have := HZ.out; omega⟩
    · have f2 : decide ((4611686018427387904 : Int) ≤ (T : Int)) = false := decide_eq_false (by omega)
      by_cases a3 : N - 48 < E
      · have f3 : decide ((N : Int) - 48 < (E : Int)) = true := decide_eq_true (by omega)
        have hz : P.1 = 0 := by rw [hP, if_neg fun k => by have := k.2.2.2; omega]
        have HZ := veil hz
        clear hz hP
        go_upto_region 4 with (go_at_call 21; refine KS4.out.mono ?_; rintro _ w5 ⟨rfl, hE5⟩)
        have H5 := veil (And.intro (H4.out.1.trans hE5) (hE5.block H4.out.2))
        clear hE5
        go_wp2_with ((with_reducible refine at_none ?_); refine wpl_store _ rfl rfl rfl rfl (cells := #[.int .u64 (((0 : Nat) : Nat) : Int), .int .i64 (((0 : Nat) : Nat) : Int)]) rfl (H5.out.2) iSl rfl (sl_one _ _) ?_; intro W6 hb6 hg6)
        exact bodyPost_ret (results_cell_row rfl _ _ gr 45 #[.int .u64 (((0 : Nat) : Nat) : Int), .int .i64 (((0 : Nat) : Nat) : Int)] (0, 0) _ rfl hg6 Try.underlying45 rfl iSl) rfl ⟨0, by rw [HZ.out], (Chg.of_but hb6).new H5.out.1 (fun z hz e => by have := HG.out.2.1; omega), fun k => by have := HZ.out; omega⟩
      · have f3 : decide ((N : Int) - 48 < (E : Int)) = false := decide_eq_false (by omega)
        have hE48 : (E : Int) ≤ 1048576 := by omega
        go_upto_region 5 with (go_at_call 21; refine KS4.out.mono ?_; rintro _ w5 ⟨rfl, hE5⟩)
        have H5 := veil (And.intro (H4.out.1.trans hE5) (hE5.block H4.out.2))
        clear hE5
        have hres : P.1 = T ∧ (0 < P.1 → P.2 = E) := by
          rw [hP]
          by_cases c : T = 0
          · rw [if_neg fun k => k.2.1 c]
            exact ⟨c.symm, fun k => by omega⟩
          · rw [if_pos (by first | exact ⟨rfl, c, by omega, by omega⟩ | exact ⟨trivial, c, by omega, by omega⟩)]
            exact ⟨rfl, fun _ => rfl⟩
        have HRS := veil hres
        clear hres hP
        go_wp2_with ((with_reducible refine at_none ?_); refine wpl_store _ rfl rfl rfl rfl (cells := #[.int .u64 (T : Int), .int .i64 (E : Int)]) rfl (H5.out.2) iSl rfl (sl_one _ _) ?_; intro W6 hb6 hg6)
        exact bodyPost_ret (results_cell_row rfl _ _ gr 45 #[.int .u64 (T : Int), .int .i64 (E : Int)] (0, 0) _ rfl hg6 Try.underlying45 rfl iSl) rfl ⟨E, by rw [HRS.out.1], (Chg.of_but hb6).new H5.out.1 (fun z hz e => by have := HG.out.2.1; omega), fun k => (HRS.out.2 k).symm⟩
  · have f1 : ((T : Int) == (T2 : Int)) = false := by simp; omega
    have f1' : ¬ (T : Int) = (T2 : Int) := by omega
    have hz : P.1 = 0 := by rw [hP, if_neg fun k => a1 k.1]
    have HZ := veil hz
    clear hz hP
    have A1 := veil a1
    clear a1
    go_wp2_with ((with_reducible refine at_none ?_); refine wpl_store _ rfl rfl rfl rfl (cells := #[.int .u64 (((0 : Nat) : Nat) : Int), .int .i64 (((0 : Nat) : Nat) : Int)]) rfl (H4.out.2) iSl rfl (sl_one _ _) ?_; intro W6 hb6 hg6)
    exact bodyPost_ret (results_cell_row rfl _ _ gr 45 #[.int .u64 (((0 : Nat) : Nat) : Int), .int .i64 (((0 : Nat) : Nat) : Int)] (0, 0) _ rfl hg6 Try.underlying45 rfl iSl) rfl ⟨0, by rw [HZ.out], (Chg.of_but hb6).new H4.out.1 (fun z hz e => by have := HG.out.2.1; omega), fun k => by have := HZ.out; omega⟩
end Go.Proofs.Ytoikgkjkcampkaa
