/-
  route.ridesOf: the landed package's own.
-/
import Derived.Test.YtebcdhfmhnhalaaNwn
import Derived.Test.YtebcdhfmhnhalaaNwo
namespace Go.Proofs.Ytebcdhfmhnhalaa
open Go.RowKit

theorem falses16R : (#[.bool false, .bool false, .bool false, .bool false, .bool false, .bool false, .bool false, .bool false, .bool false, .bool false, .bool false, .bool false, .bool false, .bool false, .bool false, .bool false] : Array Value) = arrOf 16 (fun _ => .bool false) := rfl
theorem infoRdS : (Try.prog.info? 56).map (fun i => (i.zero, i.size, i.bytes)) = some (some (.agg #[.int .i64 0, .int .i64 0, .int .i64 0, .int .i64 0]), 4, 32) := by kernel_rfl
theorem info_partsR {i : Option TypeInfo} {z : Value} {n b : Nat} (h : i.map (fun i => (i.zero, i.size, i.bytes)) = some (some z, n, b)) : ∃ j, i = some j ∧ j.zero = some z ∧ j.size = n ∧ j.bytes = b := by
  cases i with
  | none => simp at h
  | some j =>
    simp only [Option.map_some, Option.some.injEq, Prod.mk.injEq] at h
    exact ⟨j, rfl, h.1, h.2.1, h.2.2⟩
theorem OwnL.low {α : Type} {sz : Nat} {cs : α → List Value} {w : World} {base b2 ty : Nat} {v : Value} {l : List α} (h : OwnL sz cs w base ty v l) (hb : b2 ≤ base) : OwnL sz cs w b2 ty v l :=
  ⟨h.1, h.2.imp id fun ⟨g, cap, cur, e, hg, r⟩ => ⟨g, cap, cur, e, Nat.le_trans hb hg, r⟩⟩
theorem dayR_yes {ss : List Sv} {cs : List Cn} {D : Int} {j : Nat} (hj : j < cs.length) (h : runsV (svN ss (cs.getD j noCn)) D = true) : dayR ss (cs.take (j + 1)) D = dayR ss (cs.take j) D ++ [rdOf D (cs.getD j noCn)] := by
  unfold dayR
  rw [List.take_add_one, cn_get hj, List.filter_append, List.map_append]
  generalize cs.getD j noCn = c at *
  simp [h]
theorem dayR_no {ss : List Sv} {cs : List Cn} {D : Int} {j : Nat} (hj : j < cs.length) (h : runsV (svN ss (cs.getD j noCn)) D = false) : dayR ss (cs.take (j + 1)) D = dayR ss (cs.take j) D := by
  unfold dayR
  rw [List.take_add_one, cn_get hj, List.filter_append, List.map_append]
  generalize cs.getD j noCn = c at *
  simp [h]
theorem dayR_take (ss : List Sv) (cs : List Cn) (D : Int) (j : Nat) : (dayR ss (cs.take j) D).length ≤ cs.length := by
  have h1 := dayR_len ss (cs.take j) D
  rw [List.length_take] at h1
  omega

set_option maxRecDepth 100000 in
set_option maxHeartbeats 16000000 in
theorem ridesOf_calls (v : Value) (n : Nw) (D : Nat) (w : World) (hF : Nv13 w v n) (hM : mayN n = true) (hD8 : D ≤ 800000) :
    Calls Try.prog 24 #[v, .int .i64 (D : Int)] w fun e w' => ∃ x, e = .returned x ∧ OwnL 4 rdC w' w.heap.size 56 x (dayR n.ss n.cs (D : Int)) ∧ Ext w w' := by
  obtain ⟨hk16, hm100, hS8, hC8⟩ := mayN_is hM
  obtain ⟨vS, vC, ws, rfl, ⟨hS, hD⟩, hss, hC⟩ := hF
  obtain ⟨AS, cS, rfl, hcS, hxS⟩ := hS
  obtain ⟨AC, cC, rfl, hcC, hxC⟩ := hC
  obtain ⟨k, hk⟩ : ∃ k, k = ws.length := ⟨_, rfl⟩
  obtain ⟨m, hm⟩ : ∃ m, m = n.cs.length := ⟨_, rfl⟩
  rw [← hk] at hxS hcS ⊢
  rw [← hm] at hxC hcC hm100 ⊢
  have hkl : n.ss.length = k := by rw [hss, List.length_map, ← hk]
  rw [hkl] at hk16 hC8
  have HX := veil (And.intro hxS hD)
  have HY := veil hxC
  have HR := veil (And.intro hk (And.intro hm (And.intro hss (And.intro hkl (And.intro hS8 hC8)))))
  have hE0 := Ext.alloc w (.cells #[.slice AS k cS, .slice AC m cC] 25)
  have hS0 := NwAt.new w (.slice AS k cS) (.slice AC m cC)
  obtain ⟨i32, hi, hz, hsz, hby⟩ := info_partsR infoRdS
  have HI := veil (And.intro hi (And.intro hz (And.intro hsz hby)))
  have kM : IntKind.i64.wrap (1440 * (D : Int)) = 1440 * (D : Int) := by rw [IntKind.wrap_i64]; omega
  have kM' : IntKind.i64.wrap ((D : Int) * 1440) = 1440 * (D : Int) := by rw [IntKind.wrap_i64]; omega
  clear hM hk hm hxS hD hss hkl hxC hS8 hC8 hi hz hsz hby
  go_enter Try.func24, Try.ntmps24
  go_upto_region 1 with (fail)
  unfold NwAt at hS0
  obtain ⟨g, hg⟩ : ∃ g, g = w.heap.size := ⟨_, rfl⟩
  rw [← hg] at hS0 ⊢
  generalize w.alloc (.cells #[.slice AS k cS, .slice AC m cC] 25) = w0 at *
  have HS := veil (show NwAt w0 g (.slice AS k cS) (.slice AC m cC) from hS0)
  have HE := veil hE0
  clear hE0 hS0 hg
  go_upto_region 2 with (fail)
  rw [falses16R]
  have hP0 : (w0.alloc (.cells (arrOf 16 (fun _ => .bool false)) 64)).rowIs w0.heap.size 64 16 (fun _ => .bool false) := row_made w0 16 64 (fun _ => .bool false) rfl
  have hE1 := Ext.alloc w0 (.cells (arrOf 16 (fun _ => .bool false)) 64)
  generalize w0.alloc (.cells (arrOf 16 (fun _ => .bool false)) 64) = w1 at *
  obtain ⟨g1, hg1⟩ : ∃ g, g = w0.heap.size := ⟨_, rfl⟩
  rw [← hg1] at hP0 ⊢
  have HG := veil (show w0.heap.size ≤ g1 by omega)
  clear hg1
  have c0 := (HS.out.ext hE1).at0
  go_wp2
  clear c0
  go_loopw [14] (fun v wr => ∃ i : Nat, i ≤ k ∧ v = .int .i64 (i : Int) ∧ wr.rowIs g1 64 16 (fun j => .bool (if j < i then runsV (n.ss.getD j noSv) (D : Int) else false)) ∧ Ext w0 wr)
    (fun v _ => k - (intOf v).toNat)
  case atStart => exact ⟨0, by omega, rfl, hP0.congr fun j _ => by rw [if_neg (by omega)], hE1⟩
  case round =>
    clear hP0 hE1
    obtain ⟨i, hi, rfl, hP, hE⟩ := hrel
    by_cases hlt : i < k
    · have hd1 : decide ((i : Int) < (k : Int)) = true := by simp; omega
      have hii : (i : Int) < (k : Int) := by omega
      have hi16 : (i : Int) < 16 := by omega
      obtain ⟨b, o, hAS, hb, hcl⟩ := HX.out.1.resolve_left (by omega)
      have hil : i < ws.length := by have := HR.out.1; omega
      have hrg := range_ext (HE.out.trans hE) hb (hcl i _ (sw_get hil))
      have hdd := HX.out.2 _ (sw_mem hil)
      obtain ⟨x, hx⟩ : ∃ x, x = ws.getD i noSw := ⟨_, rfl⟩
      rw [← hx] at hrg hdd
      have hs : n.ss.getD i noSv = x.1 := by rw [HR.out.2.2.1, sw_fst, ← hx]
      have hmx : mayV x.1 = true := by
        have := HR.out.2.2.2.2.1 i (by have := HR.out.2.2.2.1; omega)
        rwa [hs] at this
      obtain ⟨h1, h2⟩ := mayV_100 hmx
      obtain ⟨M, hM⟩ : ∃ M, M = runsV x.1 (D : Int) := ⟨_, rfl⟩
      have KM := veil (fun W (h : Ext wr W) => runs12_calls (.agg (swC x).toArray) x.1 (D : Int) W ⟨_, _, rfl, hdd.1.ext (HE.out.trans (hE.trans h)), hdd.2.ext (HE.out.trans (hE.trans h))⟩ h1 h2)
      rw [hmx, Bool.true_and, ← hM] at KM
      have HI2 := veil (And.intro hP (And.intro hs (And.intro hM hE)))
      obtain ⟨y, hy⟩ : ∃ y, y = (swC x).toArray := ⟨_, rfl⟩
      have hy1 : y.all (·.oneCell') = true := by rw [hy]; exact swA_one hdd.1 hdd.2
      have hy5 : 5 = y.size := by rw [hy]; rfl
      have iy : (Try.prog.info? 43).map (·.size) = some y.size := by rw [hy]; exact iSw x
      have HGy := veil (show wr.rangeAt b (o + i * 5) y.toList by rw [hy]; exact hrg)
      rw [← hy] at KM
      have HZ := veil (And.intro hy1 (And.intro iy hy5))
      have hEW := Ext.alloc wr (.cells y 43)
      have hgb := heap_new wr (.cells y 43)
      subst hAS
      clear hrg hx hs hM hP hE hb hcl hdd hil hmx h1 h2 hy hy1 hy5 iy
      go_upto_region 5 with (first
        | ((with_reducible refine at_slot 18 ?_); refine wpList_load_mid rfl 43 _ rfl b _ rfl y.toList _ HGy.out Try.underlying43 rfl HZ.out.2.1 ?_)
        | ((with_reducible refine at_none ?_); refine wpList_store_row rfl 43 _ _ rfl wr.heap.size y rfl rfl 43 _ (heap_new wr _) HZ.out.2.1 HZ.out.2.2 HZ.out.1 ?_; rw [World.setRow_alloc_new]))
      have HGB := veil hgb
      have hP1 := row_below HI2.out.1 hEW HI2.out.1.lt
      have HEW := veil (And.intro hEW hP1)
      clear hgb hEW HGy hP1
      generalize wr.alloc (.cells y 43) = W at *
      generalize wr.heap.size = gf at *
      go_upto_region 6 with (first
        | ((with_reducible refine at_slot 20 ?_); refine wpList_load_row rfl 43 _ rfl gf rfl 43 y (0, 0) _ HGB.out Try.underlying43 rfl HZ.out.2.1 ?_)
        | (go_at_call 32; refine (KM.out _ HEW.out.1).mono ?_; rintro e w3 ⟨rfl, hE3⟩; have hp3 := veil (And.intro (row_below HEW.out.2 hE3 HEW.out.2.lt) hE3); have f3 := hp3.out.1.frozen i; have c3 := hp3.out.1.cell (i := i) (by omega)))
      go_wp2
      go_roundw
      case rel =>
        refine ⟨i + 1, by omega, by go_num, (hp3.out.1.set i _).congr fun j _ => ?_, below_set (HI2.out.2.2.2.trans (HEW.out.1.trans hp3.out.2)) HG.out _⟩
        by_cases e : j = i
        · subst e
          rw [if_pos rfl, if_pos (by omega), HI2.out.2.1, ← HI2.out.2.2.1]
        · rw [if_neg e]
          by_cases c : j < i
          · rw [if_pos c, if_pos (by omega)]
          · rw [if_neg c, if_neg (by omega)]
      case measure => simp [intOf]; omega
    · obtain rfl : i = k := by omega
      have hd1 : decide ((i : Int) < (i : Int)) = false := by simp
      have hPr : wr.rowIs g1 64 16 (fun j => .bool (if j < i then runsV (n.ss.getD j noSv) (D : Int) else false)) := hP
      have HS1 := veil (HS.out.ext hE)
      have H1 := veil (And.intro hPr (HE.out.trans hE))
      have c1 := HS1.out.at1
      clear hP hPr hE HS HE HX HG
      go_wp2
      clear hd1 c1
      go_loopw [8, 28] (fun u v wq => ∃ j : Nat, j ≤ m ∧ v = .int .i64 (j : Int) ∧ OwnL 4 rdC wq wr.heap.size 56 u (dayR n.ss (n.cs.take j) (D : Int)) ∧ Ext wr wq)
        (fun _ v _ => m - (intOf v).toNat)
      case atStart => exact ⟨0, by omega, rfl, OwnL.nil _ _ _, Ext.refl _⟩
      case round =>
        obtain ⟨j, hj, rfl, hO, hE⟩ := hrel
        by_cases hlt : j < m
        · have hd1 : decide ((j : Int) < (m : Int)) = true := by simp; omega
          have hjj : (j : Int) < (m : Int) := by omega
          obtain ⟨b, o, hAC, hb, hcl⟩ := HY.out.resolve_left (by omega)
          have hil : j < n.cs.length := by have := HR.out.2.1; omega
          have hrg := range_ext (H1.out.2.trans hE) hb (hcl j _ (cn_get hil))
          have hok := HR.out.2.2.2.2.2 j hil
          have hyes := dayR_yes (ss := n.ss) (D := (D : Int)) hil
          have hno := dayR_no (ss := n.ss) (D := (D : Int)) hil
          have hlen := dayR_take n.ss n.cs (D : Int) j
          rw [← HR.out.2.1] at hlen
          obtain ⟨c, hc⟩ : ∃ c, c = n.cs.getD j noCn := ⟨_, rfl⟩
          rw [← hc] at hrg hok hyes hno
          clear hc hil hcl hb
          obtain ⟨sv, fr, dp, tu, ar⟩ := c
          obtain ⟨o1, o2, _, _, o5, o6, o7, o8⟩ := hok
          simp only at o1 o2 o5 o6 o7 o8
          obtain ⟨sn, rfl⟩ : ∃ sn : Nat, sv = (sn : Int) := ⟨sv.toNat, by omega⟩
          have hsn : sn < i := by omega
          have hsn16 : (sn : Int) < 16 := by omega
          have hsv : svN n.ss ⟨(sn : Int), fr, dp, tu, ar⟩ = n.ss.getD sn noSv := rfl
          rw [hsv] at hyes hno
          have kd : IntKind.i64.wrap (1440 * (D : Int) + dp) = 1440 * (D : Int) + dp := by rw [IntKind.wrap_i64]; omega
          have ka : IntKind.i64.wrap (1440 * (D : Int) + ar) = 1440 * (D : Int) + ar := by rw [IntKind.wrap_i64]; omega
          subst hAC
          have HGr := veil hrg
          have HQ := veil (And.intro hO (And.intro hE (And.intro hyes (And.intro hno hlen))))
          clear hrg hO hE hyes hno hlen hsv o2 o5 o6 o7 o8
          go_upto_region 11 with (first
            | ((with_reducible refine at_slot 31 ?_); refine wpList_load_mid rfl 39 _ rfl b _ rfl (cnC ⟨(sn : Int), fr, dp, tu, ar⟩) _ HGr.out Try.underlying39 rfl (iCn _) ?_)
            | ((with_reducible refine at_slot 10 ?_); refine wpl_var _ _ rfl rfl rfl rfl rfl rfl hzCn (fun _ => rfl) (fun _ => rfl) (iCnA _) rfl (cnA_one _) ?_; intro gf W hgf hW hEW))
          have hgb : CnAt W gf ⟨(sn : Int), fr, dp, tu, ar⟩ := hW
          have hEE := HQ.out.2.1.trans hEW
          have hOO := HQ.out.1.keep hEW
          have e0 := hgb.at0
          have e1 := hgb.at1
          have e2 := hgb.at2
          have e3 := hgb.at3
          have e4 := hgb.at4
          simp only at e0 e1 e2 e3 e4
          have cs := ((hEE.row H1.out.1)).cell (i := sn) (by omega)
          rw [if_pos hsn] at cs
          obtain ⟨M, hM⟩ : ∃ M, M = runsV (n.ss.getD sn noSv) (D : Int) := ⟨_, rfl⟩
          rw [← hM] at cs
          have HP := veil (And.intro hM (And.intro hOO (And.intro hEE HQ.out.2.2)))
          clear hM hgb hW hEE hOO hEW hgf HQ HGr
          cases M with
          | false =>
            go_wp2
            go_roundw
            case rel => exact ⟨j + 1, by omega, by go_num, by rw [HP.out.2.2.2.2.1 HP.out.1.symm]; exact HP.out.2.1, HP.out.2.2.1⟩
            case measure => simp [intOf]; omega
          | true =>
            go_upto_region 12 with (fail)
            go_wp2_with ((with_reducible refine at_slot 53 ?_); refine wpl_append_ls (sz := 4) (cs := rdC) (l := dayR n.ss (n.cs.take j) (D : Int)) (ys := [rdOf (D : Int) ⟨(sn : Int), fr, dp, tu, ar⟩]) Try.underlying49 HI.out.1 HI.out.2.1 HI.out.2.2.1 HI.out.2.2.2 rfl (by decide) rdC_length rdC_one rfl rfl rfl rfl (HP.out.2.1.keep (Ext.alloc W (.cells (rdC (rdOf (D : Int) ⟨(sn : Int), fr, dp, tu, ar⟩)).toArray 56))) rfl (ls_one (x := rdOf (D : Int) ⟨(sn : Int), fr, dp, tu, ar⟩) (heap_new W _)) (by have := HP.out.2.2.2.2.2; unfold maxLen; omega) (by have := HP.out.2.2.2.2.2; omega) (Below.size (HP.out.2.2.1.trans (Ext.alloc W _))) ?_; intro v2 w2 hO2 hG2)
            have hEE := HP.out.2.2.1.trans (Ext.alloc W (.cells (rdC (rdOf (D : Int) ⟨(sn : Int), fr, dp, tu, ar⟩)).toArray 56))
            have hE2 := hEE.grown hG2 (Below.size hEE) fun q hq => (HP.out.2.1.lt hq).1
            go_roundw
            case rel => exact ⟨j + 1, by omega, by go_num, by rw [HP.out.2.2.2.1 HP.out.1.symm]; exact hO2, hE2⟩
            case measure => simp [intOf]; omega
        · obtain rfl : j = m := by omega
          have hd1 : decide ((j : Int) < (j : Int)) = false := by simp
          have ht : n.cs.take j = n.cs := by rw [HR.out.2.1, List.take_length]
          rw [ht] at hO
          have HO := veil (And.intro (OwnL.low hO (Below.size H1.out.2)) (H1.out.2.trans hE))
          clear hO hE ht
          go_wp2
          go_ret
          exact ⟨_, rfl, HO.out.1, HO.out.2⟩
end Go.Proofs.Ytebcdhfmhnhalaa
