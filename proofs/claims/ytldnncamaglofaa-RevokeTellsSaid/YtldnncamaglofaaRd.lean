/-
  clapperref11.Parse: the list of bytes.
-/
import Derived.Test.YtldnncamaglofaaRc
namespace Go.Proofs.Ytldnncamaglofaa
open Go.RowKit

theorem infoRv16d : (Try.prog.info? 43).map (fun i => (i.zero, i.size, i.bytes)) = some (some (.agg #[.int .i64 0, .int .i64 0]), 2, 16) := by kernel_rfl
theorem cut_lh11 (A : Option Addr) (r c m : Nat) (hm : m + 8 ≤ r) (hc : r ≤ c) (w : World) {x y : Int} (hx : x = (m : Int)) (hy : y = (m : Int) + 8) : (Instr.sliceAt 23 (.slice A r c) (some (.int .i64 x)) (some (.int .i64 y)) none).run Try.prog w = .ok (.slice (cutA A m c) 8 (c - m)) w := by
  subst hx hy
  have e2 : ((sizeOf (Try.prog.elem 23)).run Try.prog w) = .ok 1 w := by kernel_rfl
  rw [run_sliceAt_slice w 23 _ _ _ _ (by kernel_rfl), run_slice_lh w 23 A r c (by kernel_rfl) .i64 .i64 (m : Int) ((m : Int) + 8) (by omega) (by omega) (by omega), e2]
  have t2 : ((m : Int) + 8).toNat = m + 8 := by omega
  rw [t2]
  simp [sliced, Result.andThen, cutA]
def RevA (w' : World) (bs : List Nat) (x y : Value) : Prop := (revOf bs = none ∧ x = .slice none 0 0 ∧ y = .bool false) ∨ (∃ l, revOf bs = some l ∧ Rs w' x l ∧ y = .bool true)

set_option maxRecDepth 100000 in
set_option maxHeartbeats 8000000 in
theorem rparse11_calls (A : Option Addr) (m c : Nat) (bs : List Nat) (hm : m = bs.length) (hmc : m ≤ c) (hle : m ≤ 100000) (w : World) (hS : Bs w A bs) :
    Calls Try.prog 14 #[.slice A m c] w fun e w' => ∃ x y, e = .returned (.tuple #[x, y]) ∧ Ext w w' ∧ RevA w' bs x y := by
  have KG := veil (rget8_any A m c bs hm hmc (by omega) w hS)
  clear hm hS
  go_enter Try.func14, Try.ntmps14
  go_upto_region 2 with (go_at_call 27; refine KG.out.mono ?_; rintro e w1 ⟨x, y, rfl, hE1, hA⟩)
  rcases hA with ⟨hg, rfl, rfl⟩ | ⟨fs, hg, hF, rfl⟩
  · go_wp2
    go_ret2
    exact ⟨_, _, rfl, hE1, .inl ⟨revOf_no hg, rfl, rfl⟩⟩
  · have hlf := (of_decide_eq_true (get_some hg).2).1
    obtain ⟨hbf, AL, cf, rfl, hcf, hx⟩ := hF
    by_cases h1 : fs.length = 1
    · obtain ⟨b, o, rfl, hb, hcl⟩ := hx.resolve_left (by omega)
      obtain ⟨q0, A', c', q1, hc', hB⟩ := hcl 0 (by omega)
      have c0 : w1.cell? ⟨b, o, none⟩ = some (.int .i64 (tgF fs 0)) := by simpa using q0
      have c1 : w1.cell? ⟨b, o + 1, none⟩ = some (.slice A' (bsF fs 0).length c') := by simpa using q1
      have HG := veil (And.intro hg (And.intro hE1 h1))
      have hno : ∀ h : ¬ (fs.length = 1 ∧ tgF fs 0 = 1 ∧ (bsF fs 0).length % 16 = 0 ∧ mayRs (rvsOf (bsF fs 0)) = true), revOf bs = none := fun h => revOf_none hg h
      have hyes : ∀ h : (fs.length = 1 ∧ tgF fs 0 = 1 ∧ (bsF fs 0).length % 16 = 0 ∧ mayRs (rvsOf (bsF fs 0)) = true), revOf bs = some (rvsOf (bsF fs 0)) := fun h => revOf_some hg h
      have hok := (of_decide_eq_true (get_some hg).2).2 0 (by omega)
      have hDl : (bsF fs 0).length ≤ 65535 := hok.2.2.1
      rw [h1] at hcf ⊢
      clear q0 q1 hcl hx hb hlf hok hbf
      obtain ⟨T, hT⟩ : ∃ T, T = tgF fs 0 := ⟨_, rfl⟩
      obtain ⟨D, hD⟩ : ∃ D, D = bsF fs 0 := ⟨_, rfl⟩
      rw [← hT] at c0 hno hyes
      rw [← hD] at c1 hno hyes hB hDl hc'
      have HN := veil (And.intro hno (And.intro hyes hB))
      clear hno hyes hT hD hg hE1 hB
      by_cases h2 : T = 1
      · have f2 : (T != 1) = false := by simp [h2]
        have HT := veil h2
        by_cases h3 : D.length % 16 = 0
        · obtain ⟨N, hN⟩ : ∃ N, D.length = 16 * N := ⟨D.length / 16, by omega⟩
          rw [hN] at c1 hc' hDl
          have f3 : ((16 * (N : Int)) % 16 != 0) = false := by
            have : (16 * (N : Int)) % 16 = 0 := by omega
            rw [this]; rfl
          have HD := veil (And.intro hN h3)
          obtain ⟨i16, hi, hz, hsz, hby⟩ := info_parts2 infoRv16d
          have HI := veil (And.intro hi (And.intro hz (And.intro hsz hby)))
          clear hN h3 h1 h2 hi hz hsz hby
          have HE1 := veil HG.out.2.1
          go_wp2
          go_loopw [7, 8] (fun v u wr => ∃ i : Nat, i ≤ N ∧ u = .int .i64 (16 * (i : Int)) ∧ OwnL 2 rvC wr w1.heap.size 43 v (rvsTo D i) ∧ Ext w1 wr)
            (fun _ u _ => 16 * N - (intOf u).toNat)
          case atStart => exact ⟨0, by omega, rfl, OwnL.nil _ _ _, Ext.refl _⟩
          case round =>
            obtain ⟨i, hi, rfl, hO, hE⟩ := hrel
            by_cases hlt : i < N
            · have hd1 : decide (16 * (i : Int) < 16 * (N : Int)) = true := by simp; omega
              have hB := HN.out.2.2.ext hE
              have hL : 16 * i + 16 ≤ D.length := by have := HD.out.1; omega
              have hc1 : D.length ≤ c' := by have := HD.out.1; omega
              have hB1 := hB.cut (16 * i) (n := 8) (c := c') (by omega) hc1
              have hB2 := hB.cut (16 * i + 8) (n := 8) (c := c') (by omega) hc1
              have l1 : 8 = ((D.drop (16 * i)).take 8).length := by rw [List.length_take, List.length_drop]; omega
              have l2 : 8 = ((D.drop (16 * i + 8)).take 8).length := by rw [List.length_take, List.length_drop]; omega
              have k1 : ∀ W, (Instr.sliceAt 23 (.slice A' (16 * N) c') (some (.int .i64 (16 * (i : Int)))) (some (.int .i64 (16 * (i : Int) + 8))) none).run Try.prog W = .ok (.slice (cutA A' (16 * i) c') 8 (c' - 16 * i)) W := fun W => cut_mid A' (16 * N) c' (16 * i) 8 (by omega) W (by omega) (by omega)
              have k2 : ∀ W, (Instr.sliceAt 23 (.slice A' (16 * N) c') (some (.int .i64 (16 * (i : Int) + 8))) (some (.int .i64 (16 * (i : Int) + 16))) none).run Try.prog W = .ok (.slice (cutA A' (16 * i + 8) c') 8 (c' - (16 * i + 8))) W := fun W => cut_mid A' (16 * N) c' (16 * i + 8) 8 (by omega) W (by omega) (by omega)
              obtain ⟨s, hs⟩ : ∃ s, s = ofB ((D.drop (16 * i)).take 8) := ⟨_, rfl⟩
              obtain ⟨f, hf⟩ : ∃ f, f = ofB ((D.drop (16 * i + 8)).take 8) := ⟨_, rfl⟩
              have KS := veil (fun W (h : Ext wr W) => rof8_calls (cutA A' (16 * i) c') 8 (c' - 16 * i) _ l1 W (hB1.ext h))
              have KF := veil (fun W (h : Ext wr W) => rof8_calls (cutA A' (16 * i + 8) c') 8 (c' - (16 * i + 8)) _ l2 W (hB2.ext h))
              rw [← hs] at KS
              rw [← hf] at KF
              have HS := veil (show rvsTo D (i + 1) = rvsTo D i ++ [(s, f)] by rw [rvsTo_succ, hs, hf]; rfl)
              have hlen := rvsTo_length D i
              have HO := veil (And.intro hO (And.intro hE hlen))
              clear hs hf hB hL hc1 hB1 hB2 l1 l2 hO hE hlen
              go_upto_region 9 with (fail)
              refine wp_sched 16 [(true, [0, 1, 2, 3, 4, 5, 6, 7, 8, 9, 10, 11, 12, 13, 14]), (false, [15]), (false, [16]), (false, [17])] (by kernel_rfl) (by kernel_rfl) fun Q' hQ' => ?_
              refine' sched_row (A := _) _ rfl (by kernel_rfl) ?_ ?_
              rotate_left
              · intro D' hD' hN
                have e1 := veil (fun x : Gw D' => up_calls11 hD' (v := .int .i64 s) (fun W h => KS.out W h) x)
                have e2 := veil (fun x : Gw D' => up_calls11 hD' (v := .int .i64 f) (fun W h => KF.out W h) x)
                simp only [pickI, consO, List.getElem?_cons_zero, List.getElem?_cons_succ]
                iterate 5 (go_big_quiet_step (fail))
                go_big_quiet_want
                refine quiet_val (.slice (cutA A' (16 * i) c') 8 (c' - 16 * i)) (fun x => run_slice_v rfl rfl rfl rfl (k1 _)) ?_
                simp only [Act.put, List.setIfInBounds_toArray, List.set_cons_zero, List.set_cons_succ]
                go_big_quiet_on
                go_big_quiet_step (exact e1.out _)
                iterate 5 (go_big_quiet_step (fail))
                go_big_quiet_want
                refine quiet_val (.slice (cutA A' (16 * i + 8) c') 8 (c' - (16 * i + 8))) (fun x => run_slice_v rfl rfl rfl rfl (k2 _)) ?_
                simp only [Act.put, List.setIfInBounds_toArray, List.set_cons_zero, List.set_cons_succ]
                go_big_quiet_on
                go_big_quiet_step (exact e2.out _)
                go_big_quiet_step (fail)
                exact wpq_end
              refine sched_build (vs := [(0, .agg #[.int .i64 s, .int .i64 f])]) (C := #[.int .i64 s, .int .i64 f]) (e := 43) _ rfl rfl rfl rfl rfl (fun W => by simp [Instr.buildSlice, go_sem]) ?_
              intro g W2 hg hgb hE2
              simp only [Act.put, List.setIfInBounds_toArray, List.set_cons_zero, List.set_cons_succ]
              refine sched_append_ls (sz := 2) (cs := rvC) (l := rvsTo D i) (ys := [(s, f)]) Try.underlying22 HI.out.1 HI.out.2.1 HI.out.2.2.1 HI.out.2.2.2 rfl (by decide) rvC_length rvC_one _ rfl rfl rfl rfl rfl rfl (by decide) (HO.out.1.keep hE2) rfl (ls_one (x := (s, f)) hgb) (by rw [HO.out.2.2]; unfold maxLen; omega) (by rw [HO.out.2.2]; omega) (Nat.le_trans (Below.size HO.out.2.1) (Below.size hE2)) ?_
              intro v' W4 W5 hE4 hO5 hG5
              simp only [Act.put, List.setIfInBounds_toArray, List.set_cons_zero, List.set_cons_succ]
              have hEE := HO.out.2.1.trans (hE2.trans hE4)
              have hE5 : Ext w1 W5 := hEE.grown hG5 (Below.size hEE) fun k hk => (HO.out.1.lt hk).1
              have HO5 := veil (And.intro hO5 hE5)
              clear hgb hg hO5 hE5 hG5 hEE
              refine sched_assign v' _ rfl rfl rfl rfl rfl ?_
              intro W6 hE6
              simp only [Act.put, List.setIfInBounds_toArray, List.set_cons_zero, List.set_cons_succ]
              refine sched_end hQ' fun W7 hE7 => ?_
              go_wp2
              go_roundw
              case rel => exact ⟨i + 1, by omega, by go_num, by rw [HS.out]; exact (HO5.out.1.keep hE6).keep hE7, HO5.out.2.trans (hE6.trans hE7)⟩
              case measure => simp [intOf]; omega
            · obtain rfl : i = N := by omega
              have hd1 : decide (16 * (i : Int) < 16 * (i : Int)) = false := by simp
              have hRs := hO.ls rvC_length
              have hrv : rvsTo D i = rvsOf D := by
                unfold rvsOf
                rw [HD.out.1, show 16 * i / 16 = i by omega]
              rw [hrv] at hRs
              have hlen : (rvsOf D).length = i := by rw [← hrv, rvsTo_length]
              have HH := veil (And.intro hRs (And.intro hE hlen))
              have KM := veil (rmay11_calls _ (rvsOf D) wr hRs (by rw [hlen]; omega))
              clear hRs hrv hO hE hlen
              cases hmy : mayRs (rvsOf D) with
              | true =>
                rw [hmy] at KM
                have HR := veil (HN.out.2.1 ⟨HG.out.2.2, HT.out, HD.out.2, hmy⟩)
                clear hmy
                go_wp2_with (go_at_call 7; refine KM.out.mono ?_; rintro e w2 ⟨rfl, hE2⟩)
                go_ret2
                exact ⟨_, _, rfl, HE1.out.trans (HH.out.2.1.trans hE2), .inr ⟨_, HR.out, HH.out.1.ext hE2, rfl⟩⟩
              | false =>
                rw [hmy] at KM
                have HR := veil (HN.out.1 fun h => by have := h.2.2.2; rw [hmy] at this; cases this)
                clear hmy
                go_wp2_with (go_at_call 7; refine KM.out.mono ?_; rintro e w2 ⟨rfl, hE2⟩)
                go_ret2
                exact ⟨_, _, rfl, HE1.out.trans (HH.out.2.1.trans hE2), .inl ⟨HR.out, rfl, rfl⟩⟩
        · have f3 : (((D.length : Nat) : Int) % 16 != 0) = true := by simp; omega
          have e := HN.out.1 fun h => h3 h.2.2.1
          have HR := veil e
          generalize D.length = L at *
          clear h1 h2 h3 e
          go_wp2
          go_ret2
          exact ⟨_, _, rfl, HG.out.2.1, .inl ⟨HR.out, rfl, rfl⟩⟩
      · have f2 : (T != 1) = true := by simp [h2]
        have HR := veil (HN.out.1 fun h => h2 h.2.1)
        clear h1 h2
        go_wp2
        go_ret2
        exact ⟨_, _, rfl, HG.out.2.1, .inl ⟨HR.out, rfl, rfl⟩⟩
    · have HR := veil (revOf_none hg fun h => h1 h.1)
      have HE := veil hE1
      have f1 : ((fs.length : Int) != 1) = true := by simp; omega
      generalize fs.length = L at *
      clear h1 hg hx hbf hE1
      go_wp2
      go_ret2
      exact ⟨_, _, rfl, HE.out, .inl ⟨HR.out, rfl, rfl⟩⟩
end Go.Proofs.Ytldnncamaglofaa
