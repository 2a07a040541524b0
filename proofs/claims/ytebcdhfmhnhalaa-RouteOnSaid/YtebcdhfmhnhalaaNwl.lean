/-
  route.Earliest, Feasible: the landed package's own; all that the laws of layer 13 ask of it.
-/
import Derived.Test.YtebcdhfmhnhalaaNwr
namespace Go.Proofs.Ytebcdhfmhnhalaa
open Go.RowKit

theorem fair_no {n : Nw} {fr at_ tu till : Int} (h : ¬ (mayN n = true ∧ stopB fr = true ∧ stopB tu = true ∧ 0 ≤ at_ ∧ at_ ≤ 1073741824 ∧ at_ ≤ till ∧ till - at_ ≤ 4320)) : fairN n fr at_ tu till = false := by
  cases hf : fairN n fr at_ tu till with
  | false => rfl
  | true => exact absurd (fairN_is hf) h
theorem fair_yes {n : Nw} {fr at_ tu till : Int} (h : mayN n = true ∧ stopB fr = true ∧ stopB tu = true ∧ 0 ≤ at_ ∧ at_ ≤ 1073741824 ∧ at_ ≤ till ∧ till - at_ ≤ 4320) : fairN n fr at_ tu till = true := by
  unfold fairN
  rw [h.1, h.2.1, h.2.2.1, decide_eq_true h.2.2.2]
  rfl
theorem earlA_bad {n : Nw} {fr at_ tu till : Int} (h : ¬ (mayN n = true ∧ stopB fr = true ∧ stopB tu = true ∧ 0 ≤ at_ ∧ at_ ≤ 1073741824 ∧ at_ ≤ till ∧ till - at_ ≤ 4320)) : EarlA n fr at_ tu till 0 false (.iface 33 (.int .i64 1)) := .inl ⟨fair_no h, rfl, rfl, rfl⟩
theorem arr_get {T : Array Value} {f : Nat → Value} {n i : Nat} (h : T = arrOf n f) (hi : i < n) : T[i]? = some (f i) := by rw [h, arrOf_get f hi]


set_option maxRecDepth 100000 in
set_option maxHeartbeats 16000000 in
theorem earl13_calls (v : Value) (n : Nw) (fr at_ tu till : Int) (w : World) (hF : Nv13 w v n) (hf : Few1 n) (i2 : In64 at_) (i4 : In64 till) :
    Calls Try.prog 9 #[v, .int .i64 fr, .int .i64 at_, .int .i64 tu, .int .i64 till] w fun e w' => ∃ t is ev, e = .returned (.tuple #[.int .i64 t, .bool is, ev]) ∧ Ext w w' ∧ EarlA n fr at_ tu till t is ev := by
  have KO := veil (fun W => on12_calls at_ W i2.1 i2.2)
  have KM := veil (fun W (h : Ext w W) => may13_calls v n W (hF.ext h) hf)
  have KF := veil (fun W => isStop_calls fr W)
  have KT := veil (fun W => isStop_calls tu W)
  have KR := veil (fun (D : Nat) W (h : Ext w W) (hM : mayN n = true) h1 h2 => ridesTill_calls v n D till W (hF.ext h) hM h1 h2)
  obtain ⟨vS, vC, ws, rfl, ⟨hS, -⟩, -, hC⟩ := hF
  obtain ⟨AS, cS, rfl, -, -⟩ := hS
  obtain ⟨AC, cC, rfl, -, -⟩ := hC
  generalize ws.length = k at *
  generalize n.cs.length = m at *
  obtain ⟨M, hM⟩ : ∃ M, M = mayN n := ⟨_, rfl⟩
  obtain ⟨F, hFF⟩ : ∃ F, F = stopB fr := ⟨_, rfl⟩
  obtain ⟨T, hT⟩ : ∃ T, T = stopB tu := ⟨_, rfl⟩
  rw [← hM] at KM
  rw [← hFF] at KF
  rw [← hT] at KT
  have HV := veil (And.intro hM (And.intro hFF (And.intro hT (And.intro i2 i4))))
  have hE0 := Ext.alloc w (.cells #[.slice AS k cS, .slice AC m cC] 25)
  have hS0 := NwAt.new w (.slice AS k cS) (.slice AC m cC)
  clear hM hFF hT hf i2 i4
  go_enter Try.func9, Try.ntmps9
  go_upto_region 1 with (fail)
  unfold NwAt at hS0
  obtain ⟨g, hg⟩ : ∃ g, g = w.heap.size := ⟨_, rfl⟩
  rw [← hg] at hS0 ⊢
  generalize w.alloc (.cells #[.slice AS k cS, .slice AC m cC] 25) = w0 at *
  have HS := veil (show NwAt w0 g (.slice AS k cS) (.slice AC m cC) from hS0)
  have HE := veil hE0
  clear hE0 hS0 hg
  go_upto_region 2 with (go_at_call 15; refine (KO.out _).mono ?_; rintro e w1 ⟨x, y, ev, rfl, hE1, hP⟩)
  have H1 := veil (And.intro (HE.out.trans hE1) (HS.out.ext hE1))
  clear hE1 HE HS KO
  rcases hP with ⟨hat, rfl, rfl, rfl⟩ | ⟨ha0, ha1, hx, hy, rfl⟩
  · have HA := veil (earlA_bad (n := n) (fr := fr) (at_ := at_) (tu := tu) (till := till) (fun h => by omega))
    have ne := neErr13
    clear hat
    go_wp2
    refine bodyPost_ret (results_tmp3 rfl _ _ _) rfl ⟨_, _, _, rfl, H1.out.1, HA.out⟩
  have ne := neNil13
  cases M with
  | false =>
    have HA := veil (earlA_bad (n := n) (fr := fr) (at_ := at_) (tu := tu) (till := till) (fun h => by have h1 := h.1; rw [← HV.out.1] at h1; cases h1))
    clear ha0 ha1 hx hy
    go_wp2_with (first
      | ((with_reducible refine at_slot 26 ?_); refine wpl_rowG13 rfl 25 _ rfl g rfl 25 #[.slice AS k cS, .slice AC m cC] (0, 0) _ H1.out.2 Try.underlying25 rfl iNw ?_)
      | (go_at_call 12; refine (KM.out _ H1.out.1).mono ?_; rintro e w2 ⟨rfl, hE2⟩))
    refine bodyPost_ret (results_tmp3 rfl _ _ _) rfl ⟨_, _, _, rfl, H1.out.1.trans hE2, HA.out⟩
  | true =>
  cases F with
  | false =>
    have HA := veil (earlA_bad (n := n) (fr := fr) (at_ := at_) (tu := tu) (till := till) (fun h => by have h1 := h.2.1; rw [← HV.out.2.1] at h1; cases h1))
    clear ha0 ha1 hx hy
    go_wp2_with (first
      | ((with_reducible refine at_slot 26 ?_); refine wpl_rowG13 rfl 25 _ rfl g rfl 25 #[.slice AS k cS, .slice AC m cC] (0, 0) _ H1.out.2 Try.underlying25 rfl iNw ?_)
      | (go_at_call 12; refine (KM.out _ H1.out.1).mono ?_; rintro e w2 ⟨rfl, hE2⟩)
      | (go_at_call 16; with_reducible refine (KF.out _).mono ?_; rintro e w3 ⟨rfl, rfl⟩))
    refine bodyPost_ret (results_tmp3 rfl _ _ _) rfl ⟨_, _, _, rfl, H1.out.1.trans hE2, HA.out⟩
  | true =>
  cases T with
  | false =>
    have HA := veil (earlA_bad (n := n) (fr := fr) (at_ := at_) (tu := tu) (till := till) (fun h => by have h1 := h.2.2.1; rw [← HV.out.2.2.1] at h1; cases h1))
    clear ha0 ha1 hx hy
    go_wp2_with (first
      | ((with_reducible refine at_slot 26 ?_); refine wpl_rowG13 rfl 25 _ rfl g rfl 25 #[.slice AS k cS, .slice AC m cC] (0, 0) _ H1.out.2 Try.underlying25 rfl iNw ?_)
      | (go_at_call 12; refine (KM.out _ H1.out.1).mono ?_; rintro e w2 ⟨rfl, hE2⟩)
      | (go_at_call 16; with_reducible refine (KF.out _).mono ?_; rintro e w3 ⟨rfl, rfl⟩)
      | (go_at_call 16; with_reducible refine (KT.out _).mono ?_; rintro e w3 ⟨rfl, rfl⟩))
    refine bodyPost_ret (results_tmp3 rfl _ _ _) rfl ⟨_, _, _, rfl, H1.out.1.trans hE2, HA.out⟩
  | true =>
  have kA : IntKind.i64.wrap (at_ + 4320) = at_ + 4320 := by rw [IntKind.wrap_i64]; omega
  by_cases g1 : till < at_
  · have f1 : decide (till < at_) = true := decide_eq_true g1
    have HA := veil (earlA_bad (n := n) (fr := fr) (at_ := at_) (tu := tu) (till := till) (fun h => by omega))
    clear ha0 ha1 hx hy g1
    go_wp2_with (first
      | ((with_reducible refine at_slot 26 ?_); refine wpl_rowG13 rfl 25 _ rfl g rfl 25 #[.slice AS k cS, .slice AC m cC] (0, 0) _ H1.out.2 Try.underlying25 rfl iNw ?_)
      | (go_at_call 12; refine (KM.out _ H1.out.1).mono ?_; rintro e w2 ⟨rfl, hE2⟩)
      | (go_at_call 16; with_reducible refine (KF.out _).mono ?_; rintro e w3 ⟨rfl, rfl⟩)
      | (go_at_call 16; with_reducible refine (KT.out _).mono ?_; rintro e w3 ⟨rfl, rfl⟩))
    refine bodyPost_ret (results_tmp3 rfl _ _ _) rfl ⟨_, _, _, rfl, H1.out.1.trans hE2, HA.out⟩
  have f1 : decide (till < at_) = false := decide_eq_false g1
  by_cases g2 : at_ + 4320 < till
  · have f2 : decide (at_ + 4320 < till) = true := decide_eq_true g2
    have HA := veil (earlA_bad (n := n) (fr := fr) (at_ := at_) (tu := tu) (till := till) (fun h => by omega))
    clear ha0 ha1 hx hy g1 g2
    go_wp2_with (first
      | ((with_reducible refine at_slot 26 ?_); refine wpl_rowG13 rfl 25 _ rfl g rfl 25 #[.slice AS k cS, .slice AC m cC] (0, 0) _ H1.out.2 Try.underlying25 rfl iNw ?_)
      | (go_at_call 12; refine (KM.out _ H1.out.1).mono ?_; rintro e w2 ⟨rfl, hE2⟩)
      | (go_at_call 16; with_reducible refine (KF.out _).mono ?_; rintro e w3 ⟨rfl, rfl⟩)
      | (go_at_call 16; with_reducible refine (KT.out _).mono ?_; rintro e w3 ⟨rfl, rfl⟩))
    refine bodyPost_ret (results_tmp3 rfl _ _ _) rfl ⟨_, _, _, rfl, H1.out.1.trans hE2, HA.out⟩
  have f2 : decide (at_ + 4320 < till) = false := decide_eq_false g2
  obtain ⟨D, rfl⟩ : ∃ D : Nat, x = (D : Int) := ⟨x.toNat, by omega⟩
  obtain ⟨q, rfl⟩ : ∃ q : Nat, tu = (q : Int) := ⟨tu.toNat, by have := stopB_is HV.out.2.2.1.symm; omega⟩
  have hq32 : (q : Int) < 32 := (stopB_is HV.out.2.2.1.symm).2
  have hfr := stopB_is HV.out.2.1.symm
  have hfair := fair_yes (n := n) (fr := fr) (at_ := at_) (tu := (q : Int)) (till := till) ⟨HV.out.1.symm, HV.out.2.1.symm, HV.out.2.2.1.symm, ha0, ha1, by omega, by omega⟩
  have h750 : D ≤ 750000 := by omega
  have hspan : till ≤ 1440 * (D : Int) + 5760 := by omega
  have hbig : till ≤ 1100000000 := by omega
  have HF := veil (And.intro hfair (And.intro hx (And.intro hfr hbig)))
  have KR2 := veil (fun W (h : Ext w W) => KR.out D W h HV.out.1.symm h750 hspan)
  clear ha0 ha1 hx hy g1 g2 hfr hfair h750 hspan hbig KR
  go_upto_region 4 with (first
    | ((with_reducible refine at_slot 26 ?_); refine wpl_rowG13 rfl 25 _ rfl g rfl 25 #[.slice AS k cS, .slice AC m cC] (0, 0) _ H1.out.2 Try.underlying25 rfl iNw ?_)
    | (go_at_call 12; refine (KM.out _ H1.out.1).mono ?_; rintro e w2 ⟨rfl, hE2⟩)
    | (go_at_call 16; with_reducible refine (KF.out _).mono ?_; rintro e w3 ⟨rfl, rfl⟩)
    | (go_at_call 16; with_reducible refine (KT.out _).mono ?_; rintro e w3 ⟨rfl, rfl⟩))
  have H2 := veil (And.intro (H1.out.1.trans hE2) (H1.out.2.ext hE2))
  clear hE2 H1 KM KF KT kA f1 f2 ne
  go_upto_region 5 with (first
    | ((with_reducible refine at_slot 52 ?_); refine wpList_load_row rfl 25 _ rfl g rfl 25 #[.slice AS k cS, .slice AC m cC] (0, 0) _ H2.out.2 Try.underlying25 rfl iNw ?_)
    | (go_at_call 18; refine (KR2.out _ H2.out.1).mono ?_; rintro e w3 ⟨vr, d, K, rfl, hL, hsrt, hperm, hK, hK4, hE3⟩
       have hokr : ∀ r ∈ d, Okr r := fun r hr => okr_of HV.out.1.symm HF.out.2.2.2 (hperm.mem_iff.1 hr)
       have hlen : d.length ≤ 100000 := by
         rw [hperm.length_eq]
         have h1 := tillR_len n.ss n.cs till (D : Int) K
         have h2 : K * n.cs.length ≤ 4 * 100 := Nat.mul_le_mul hK4 (mayN_is HV.out.1.symm).2.1
         omega
       have KS := veil (soonest_calls vr d fr at_ w3 hL hokr HF.out.2.2.1.1 HF.out.2.2.1.2 hlen)
       have HR := veil (And.intro hsrt (And.intro hperm (And.intro hK hE3)))
       clear hL hsrt hperm hK hK4 hE3 hokr hlen)
    | (go_at_call 17; refine KS.out.mono ?_; rintro e w4 ⟨rfl, hE4⟩
       obtain ⟨X, hX⟩ : ∃ X, X = arrOf 32 (fun j => Value.int .i64 (soonB d fr at_ j)) := ⟨_, rfl⟩
       rw [← hX]
       obtain ⟨t, ht⟩ : ∃ t, t = soonB d fr at_ q := ⟨_, rfl⟩
       have hXq : X[q]? = some (.int .i64 t) := by rw [arr_get hX (by omega), ht]
       have kx := fun W => run_index_arr (P := Try.prog) (t := 47) (cs := X) (v := .int .i64 t) Try.underlying47 (by kernel_rfl) (fun W => run_part_plain (P := Try.prog) W (e := 3) (by kernel_rfl) (xs := X) (off := q) hXq) (show q < 32 by omega) .i64 W
       have HX := veil (And.intro ht hE4)
       clear hX ht hXq hE4 KS))
  clear kx
  have hres := soon_earl HF.out.1 HF.out.2.1 HR.out.2.2.1 HR.out.2.1 HR.out.1 (x := t) (by rw [Int.toNat_natCast]; exact HX.out.1)
  have HW := veil (H2.out.1.trans (HR.out.2.2.2.trans HX.out.2))
  rcases hres with ⟨h1, h2⟩ | ⟨h1, h2⟩
  · have hd : (t == 9223372036854775807) = true := by rw [h1]; rfl
    have HA := veil (show EarlA n fr at_ (q : Int) till 0 false .nilIface from .inr ⟨HF.out.1, h2, rfl⟩)
    clear h1 h2
    go_wp2
    refine bodyPost_ret (results_tmp3 rfl _ _ _) rfl ⟨_, _, _, rfl, HW.out, HA.out⟩
  · have hd : (t == 9223372036854775807) = false := beq_false_of_ne h1
    have HA := veil (show EarlA n fr at_ (q : Int) till t true .nilIface from .inr ⟨HF.out.1, h2, rfl⟩)
    clear h1 h2
    go_wp2
    refine bodyPost_ret (results_tmp3 rfl _ _ _) rfl ⟨_, _, _, rfl, HW.out, HA.out⟩

set_option maxRecDepth 100000 in
set_option maxHeartbeats 16000000 in
theorem feas13_calls (v : Value) (n : Nw) (fr at_ tu till : Int) (w : World) (hF : Nv13 w v n) (hf : Few1 n) (i2 : In64 at_) (i4 : In64 till) :
    Calls Try.prog 14 #[v, .int .i64 fr, .int .i64 at_, .int .i64 tu, .int .i64 till] w fun e w' => ∃ is ev, e = .returned (.tuple #[.bool is, ev]) ∧ Ext w w' ∧ FeasA n fr at_ tu till is ev := by
  have KE := veil (fun W (h : Ext w W) => earl13_calls v n fr at_ tu till W (hF.ext h) hf i2 i4)
  obtain ⟨vS, vC, ws, rfl, ⟨hS, -⟩, -, hC⟩ := hF
  obtain ⟨AS, cS, rfl, -, -⟩ := hS
  obtain ⟨AC, cC, rfl, -, -⟩ := hC
  generalize ws.length = k at *
  generalize n.cs.length = m at *
  have hE0 := Ext.alloc w (.cells #[.slice AS k cS, .slice AC m cC] 25)
  have hS0 := NwAt.new w (.slice AS k cS) (.slice AC m cC)
  clear hf i2 i4
  go_enter Try.func14, Try.ntmps14
  go_upto_region 1 with (fail)
  unfold NwAt at hS0
  obtain ⟨g, hg⟩ : ∃ g, g = w.heap.size := ⟨_, rfl⟩
  rw [← hg] at hS0 ⊢
  generalize w.alloc (.cells #[.slice AS k cS, .slice AC m cC] 25) = w0 at *
  have HS := veil (show NwAt w0 g (.slice AS k cS) (.slice AC m cC) from hS0)
  have HE := veil hE0
  clear hE0 hS0 hg
  go_upto_region 2 with (first
    | ((with_reducible refine at_slot 16 ?_); refine wpList_load_row rfl 25 _ rfl g rfl 25 #[.slice AS k cS, .slice AC m cC] (0, 0) _ HS.out Try.underlying25 rfl iNw ?_)
    | (go_at_call 9; refine (KE.out _ HE.out).mono ?_; rintro e w1 ⟨t, is, ev, rfl, hE1, hP⟩))
  have H1 := veil (And.intro (HE.out.trans hE1) hP)
  clear hE1 hP
  go_wp2
  go_ret2
  refine ⟨_, _, rfl, H1.out.1, ?_⟩
  rcases H1.out.2 with ⟨h1, _, h2, h3⟩ | ⟨h1, h2, h3⟩
  · exact .inl ⟨h1, h2, h3⟩
  · exact .inr ⟨h1, ⟨_, h2⟩, h3⟩

theorem code13 : Code13 where
  may v n w hF hf := may13_calls v n w hF hf
  earl v n fr at_ tu till w hF hf _ i2 _ i4 := earl13_calls v n fr at_ tu till w hF hf i2 i4
  feas v n fr at_ tu till w hF hf _ i2 _ i4 := feas13_calls v n fr at_ tu till w hF hf i2 i4
end Go.Proofs.Ytebcdhfmhnhalaa
