/-
  clapperref08.Get: the fields of bytes.
-/
import Derived.Test.YtldnncamaglofaaT5
namespace Go.Proofs.Ytldnncamaglofaa
open Go.RowKit

theorem getFs_parse {bs : List Nat} : getFs bs = match parse bs with | some fs => if mayFs fs = true then some fs else none | none => none := by
  unfold getFs
  cases parse bs with
  | none => rfl
  | some fs => cases h : mayFs fs <;> simp [Option.filter, h]
theorem parse_len : ∀ (k : Nat) {bs : List Nat} {fs : List Fd}, bs.length ≤ k → parse bs = some fs → fs.length ≤ bs.length
  | _, [], fs, _, h => by
    rw [parse_nil] at h
    obtain rfl := Option.some.inj h
    exact Nat.le_refl _
  | _, [a], fs, _, h => by cases h
  | _, [a, b], fs, _, h => by cases h
  | 0, t :: h :: l :: r, fs, hk, _ => by simp at hk
  | k + 1, t :: h :: l :: r, fs, hk, he => by
    rw [parse_cons] at he
    split at he
    · cases hp : parse (r.drop (256 * h + l)) with
      | none => rw [hp] at he; cases he
      | some gs =>
        rw [hp] at he
        obtain rfl := Option.some.inj he
        simp only [List.length_cons] at hk ⊢
        have := parse_len k (by rw [List.length_drop]; omega) hp
        rw [List.length_drop] at this
        omega
    · cases he

set_option maxRecDepth 100000 in
set_option maxHeartbeats 4000000 in
theorem rget8_calls (A : Option Addr) (m c : Nat) (bs : List Nat) (hm : m = bs.length) (hmc : m ≤ c) (hle : m ≤ 100000000) (w : World) (hS : Bs w A bs) :
    Calls Try.prog 27 #[.slice A m c] w fun e w' => Ext w w' ∧ ((getFs bs = none ∧ e = .returned (.tuple #[.slice none 0 0, .bool false])) ∨ (∃ fs v, getFs bs = some fs ∧ Fl w' v fs ∧ e = .returned (.tuple #[v, .bool true]))) := by
  have HS := veil hS
  have HM := veil hm
  clear hS hm
  go_enter Try.func27, Try.ntmps27
  go_wp2
  go_loopw [4, 5, 6] (fun v u _ wr => ∃ (p : Nat) (fs : List Fd), p ≤ m ∧ u = .int .i64 (p : Int) ∧ OwnFs wr w.heap.size v fs ∧ fs.length ≤ p ∧ parse bs = (parse (bs.drop p)).map (fs ++ ·) ∧ Ext w wr)
    (fun _ v _ _ => m - (intOf v).toNat)
  case atStart => exact ⟨0, [], by omega, rfl, OwnFs.nil _ _, by simp, by simp, Ext.refl _⟩
  case round =>
    obtain ⟨p, fs, hp, rfl, hO, hfl, hpar, hE⟩ := hrel
    by_cases hlt : p < m
    · have hd1 : decide ((p : Int) < (m : Int)) = true := by simp; omega
      have hii : (p : Int) < (m : Int) := by omega
      by_cases h3 : m < p + 3
      · have hd2 : decide ((m : Int) < (p : Int) + 3) = true := by simp; omega
        have hn : getFs bs = none := by
          rw [getFs_parse, hpar, parse_short (by have := HM.out; omega) (by have := HM.out; omega)]
          rfl
        clear hpar hO
        go_wp2
        go_ret2
        exact ⟨hE, .inl ⟨hn, rfl⟩⟩
      · have hd2 : decide ((m : Int) < (p : Int) + 3) = false := by simp; omega
        have hb := HS.out.ext hE
        obtain ⟨b, o, hA, hbl, c1⟩ := hb.cell (j := p + 1) (by have := HM.out; omega)
        obtain ⟨b', o', hA', _, c2⟩ := hb.cell (j := p + 2) (by have := HM.out; omega)
        obtain ⟨b'', o'', hA'', _, c0⟩ := hb.cell (j := p) (by have := HM.out; omega)
        obtain ⟨e1, e2⟩ : b' = b ∧ o' = o := by rw [hA] at hA'; injection hA' with h; injection h with h1 h2; exact ⟨h1.symm, h2.symm⟩
        obtain ⟨e3, e4⟩ : b'' = b ∧ o'' = o := by rw [hA] at hA''; injection hA'' with h; injection h with h1 h2; exact ⟨h1.symm, h2.symm⟩
        subst e1 e2 e3 e4
        have l1 := HS.out.1.getD (p + 1)
        have l2 := HS.out.1.getD (p + 2)
        have l0 := HS.out.1.getD p
        obtain ⟨X, hX⟩ : ∃ X, X = bs.getD (p + 1) 0 := ⟨_, rfl⟩
        obtain ⟨Y, hY⟩ : ∃ Y, Y = bs.getD (p + 2) 0 := ⟨_, rfl⟩
        obtain ⟨T, hT⟩ : ∃ T, T = bs.getD p 0 := ⟨_, rfl⟩
        rw [← hX] at c1 l1
        rw [← hY] at c2 l2
        rw [← hT] at c0 l0
        have HXY := veil (And.intro hX (And.intro hY hT))
        have k1 : (X : Int) ≤ 255 := by omega
        have k2 : (Y : Int) ≤ 255 := by omega
        have k0 : (T : Int) ≤ 255 := by omega
        have i1 : (p : Int) + 1 < (m : Int) := by omega
        have i2 : (p : Int) + 2 < (m : Int) := by omega
        have HO := veil (And.intro hO (And.intro hfl hpar))
        have HB := veil hb
        clear hX hY hT l1 l2 l0 hA' hA'' hO hfl hpar hb
        subst hA
        go_wp2_with fail
        go_quiet (fail)
        obtain ⟨N, hN⟩ : ∃ N, N = 256 * X + Y := ⟨_, rfl⟩
        have hNi : (256 * (X : Int) + (Y : Int)) = (N : Int) := by omega
        have hN2 : N ≤ 65535 := by omega
        have HN := veil hN
        rw [hNi]
        clear hN hNi c1 c2 k1 k2 i1 i2
        generalize hwr : wr.drewN nq = wr1 at *
        have hE1 : Ext wr wr1 := by rw [← hwr]; exact Ext.drewK _ _
        have hc0 : wr1.cell? ⟨b'', o'' + p, none⟩ = some (.int .u8 T) := (hE1.cell hbl).trans c0
        have hEE := hE.trans hE1
        have HO1 := veil (And.intro (HO.out.1.keep hE1) (HB.out.ext hE1))
        clear hwr c0
        by_cases h4 : m < p + 3 + N
        · have hd3 : decide ((m : Int) < (p : Int) + 3 + (N : Int)) = true := by simp; omega
          have hn : getFs bs = none := by
            rw [getFs_parse, HO.out.2.2, parse_long (n := N) (by have := HM.out; omega) (by rw [HN.out, HXY.out.1, HXY.out.2.1]) (by have := HM.out; omega)]
            rfl
          go_wp2
          go_ret2
          exact ⟨hEE, .inl ⟨hn, rfl⟩⟩
        · have hd3 : decide ((m : Int) < (p : Int) + 3 + (N : Int)) = false := by simp; omega
          have hst := parse_more (n := N) (by have := HM.out; omega) (by rw [HN.out, HXY.out.1, HXY.out.2.1]) (by have := HM.out; omega : p + 3 + N ≤ bs.length)
          have HST := veil hst
          clear hst
          go_upto_region 9 with (fail)
          refine wp_sched 18 [(true, [0, 1, 2, 3, 4, 5, 7, 8, 9, 10, 11, 12, 13, 14]), (false, [6]), (false, [15]), (true, [16]), (false, [17]), (false, [18]), (false, [19])] (by kernel_rfl) (by kernel_rfl) fun Q' hQ' => ?_
          refine' sched_row (A := _) _ rfl (by kernel_rfl) ?h1 ?h2
          case h1 =>
            intro D hD hN
            have d0 := hD.cell hc0
            simp only [pickI, consO, List.getElem?_cons_zero, List.getElem?_cons_succ]
            iterate 13 (go_big_quiet_step (fail))
            go_big_quiet_want
            refine quiet_val (.slice (cutA (some ⟨b'', o'', none⟩) (p + 3) c) N (c - (p + 3))) (fun x => run_slice_v rfl rfl rfl rfl (cut_mid _ _ _ _ _ (by omega) _ (by omega) (by omega))) ?_
            simp only [Act.put, List.setIfInBounds_toArray, List.set_cons_zero, List.set_cons_succ]
            go_big_quiet_on
            exact wpq_end
          refine sched_build (vs := []) (C := #[]) (e := 5) _ rfl rfl rfl rfl rfl (fun W => by simp [Instr.buildSlice, go_sem]) ?_
          intro g W hg hgb hEW
          simp only [Act.put, List.setIfInBounds_toArray, List.set_cons_zero, List.set_cons_succ]
          have hBc := (HO1.out.2.cut (p + 3) (n := N) (c := c) (by have := HM.out; omega) (by have := HM.out; omega)).ext hEW
          have hl : N = ((bs.drop (p + 3)).take N).length := by rw [List.length_take, List.length_drop]; have := HM.out; omega
          refine sched_append0 _ rfl rfl rfl rfl rfl rfl hgb hBc hl (by omega) ?_
          intro A' c' W2 hE2 hc' hB' hF'
          simp only [Act.put, List.setIfInBounds_toArray, List.set_cons_zero, List.set_cons_succ]
          have HB2 := veil (And.intro hB' (And.intro hF' hl))
          have hEW2 := hEW.trans hE2
          have hsz := Below.size hEW
          clear hB' hF' hl hBc hgb hg hE2 hEW
          refine' sched_row (A := _) _ rfl (by kernel_rfl) ?k1 ?k2
          case k1 =>
            intro D hD hN
            simp only [pickI, consO, List.getElem?_cons_zero, List.getElem?_cons_succ]
            repeat (go_big_quiet_step (fail))
            exact wpq_end
          refine sched_build (vs := [(0, .agg #[.int .i64 (T : Int), .slice A' N c'])]) (C := #[.int .i64 (T : Int), .slice A' N c']) (e := 48) _ rfl rfl rfl rfl rfl (fun W => by simp [Instr.buildSlice, go_sem]) ?_
          intro g2 W3 hg2 hgb2 hE3
          simp only [Act.put, List.setIfInBounds_toArray, List.set_cons_zero, List.set_cons_succ]
          have hEW3 := hEW2.trans hE3
          have hown3 := HO1.out.1.keep hEW3
          have hoff : Off A' ((bs.drop (p + 3)).take N) (Value.ownBlock u4) := HB2.out.2.1.off fun k hk => Nat.lt_of_lt_of_le (HO1.out.1.lt hk).2 hsz
          have hBn := HB2.out.1.ext hE3
          have hbase := Nat.le_trans (Below.size hEE) (Below.size hEW3)
          have hNl := HB2.out.2.2
          have hfl : fs.length ≤ 1000000000 := by have := HO.out.2.1; omega
          rw [hNl] at hgb2 hc'
          refine sched_append_fd (f := ((T : Int), (bs.drop (p + 3)).take N)) (al := (A', c')) _ rfl rfl rfl rfl rfl rfl (by decide) hown3 hgb2 hc' hBn hoff hfl hbase ?_
          intro v' W4 W5 hE4 hO5 hG5
          simp only [Act.put, List.setIfInBounds_toArray, List.set_cons_zero, List.set_cons_succ]
          have hE5 : Ext w W5 := (hEE.trans (hEW3.trans hE4)).grown hG5 (Below.size (hEE.trans (hEW3.trans hE4))) fun k hk => (HO1.out.1.lt hk).1
          have HO5 := veil (And.intro hO5 hE5)
          clear hown3 hoff hBn hbase hNl hgb2 hc' hO5 hE5 hG5
          refine sched_assign v' _ rfl rfl rfl rfl rfl ?_
          intro W6 hE6
          simp only [Act.put, List.setIfInBounds_toArray, List.set_cons_zero, List.set_cons_succ]
          refine sched_end hQ' fun W7 hE7 => ?_
          go_wp2
          go_roundw
          case rel =>
            refine ⟨p + 3 + N, _, by omega, by go_num, (HO5.out.1.keep hE6).keep hE7, ?_, ?_, HO5.out.2.trans (hE6.trans hE7)⟩
            · rw [List.length_append, List.length_singleton]; have := HO.out.2.1; omega
            · rw [HO.out.2.2, HST.out, ← HXY.out.2.2]
              cases parse (bs.drop (p + 3 + N)) with
              | none => rfl
              | some x => simp
          case measure => simp [intOf]; omega
    · obtain rfl : p = m := by omega
      have hd1 : decide ((p : Int) < (p : Int)) = false := by simp
      have hpar2 : parse bs = some fs := by
        rw [hpar, HM.out, parse_end]
        simp
      have hF := hO.fl
      have HP := veil (And.intro hpar2 (And.intro hF hE))
      have hfb : fs.length ≤ 1000000000 := by omega
      have KM := veil (fun v hv => rmay8_calls v fs wr hv hfb)
      clear hpar hpar2 hF hO
      go_upto_region 12 with (go_at_call 41; refine (KM.out _ HP.out.2.1).mono ?_; rintro e w2 ⟨rfl, hE2⟩)
      cases hmay : mayFs fs with
      | false =>
        have hn : getFs bs = none := by
          rw [getFs_parse, HP.out.1]
          simp [hmay]
        go_wp2
        go_ret2
        exact ⟨HP.out.2.2.trans hE2, .inl ⟨hn, rfl⟩⟩
      | true =>
        have hn : getFs bs = some fs := by
          rw [getFs_parse, HP.out.1]
          simp [hmay]
        go_wp2
        go_ret2
        exact ⟨HP.out.2.2.trans hE2, .inr ⟨fs, _, hn, HP.out.2.1.ext hE2, rfl⟩⟩
end Go.Proofs.Ytldnncamaglofaa
