/-
  clapperref13.Earliest: the least minute.
-/
import Derived.Test.YtebcdhfmhnhalaaNwd
import Derived.Test.YtebcdhfmhnhalaaNwb
import Derived.Test.YtebcdhfmhnhalaaSvd
namespace Go.Proofs.Ytebcdhfmhnhalaa
open Go.RowKit

/-- What a row of numbers holds. -/
def rowB (w : World) (g j : Nat) : Int := match w.cell? ⟨g, j, none⟩ with
  | some (.int _ x) => x
  | _ => 0
def bN : Value → Nat
  | .bool true => 1
  | _ => 0
theorem sumTo_congr {f g : Nat → Nat} : ∀ {n : Nat}, (∀ j, j < n → f j = g j) → sumTo f n = sumTo g n
  | 0, _ => rfl
  | n + 1, h => by
    show sumTo f n + f n = sumTo g n + g n
    rw [sumTo_congr (n := n) fun j hj => h j (by omega), h n (by omega)]
theorem mu_row {w : World} {g : Nat} {b : Nat → Int} {till : Int} (h : w.rowIs g 3 32 (fun j => .int .i64 (b j))) : mu till (rowB w g) = mu till b := by
  unfold mu
  refine sumTo_congr fun j hj => ?_
  unfold rowB
  rw [h.cell hj]
theorem infoInt13 : (Try.prog.info? 3).map (fun i => (i.zero, i.size, i.bytes)) = some (some (.int .i64 0), 1, 8) := by kernel_rfl
theorem hmk13 (W : World) : (Instr.makeSlice 41 (.int .i64 32) (.int .i64 32)).run Try.prog W = .ok (.slice (some ⟨W.heap.size, 0, none⟩) 32 32) (W.alloc (.cells (madeCells #[.int .i64 0] 32) 3)) := by
  cases hi : Try.prog.info? 3 with
  | none => have := infoInt13; rw [hi] at this; cases this
  | some i =>
    have := infoInt13
    rw [hi] at this
    simp only [Option.map_some, Option.some.injEq, Prod.mk.injEq] at this
    exact run_make_row 41 3 i (.int .i64 0) Try.underlying41 hi this.1 this.2.1 rfl .i64 .i64 32 (by rw [this.2.2]; omega) (by omega) W
theorem i64_in13 {x : Int} (h0 : -9223372036854775808 ≤ x) (h1 : x ≤ 9223372036854775807) : IntKind.i64.wrap x = x := by rw [IntKind.wrap_i64]; omega

theorem idle_of {ss : List Sv} {till D : Int} {b : Nat → Int} {sv dp ar : Int} {fn tn : Nat}
    (h : runsV (svN ss ⟨sv, fn, dp, tn, ar⟩) D = true → 0 ≤ b fn → b fn ≤ 1440 * D + dp → 1440 * D + ar ≤ till → 0 ≤ b tn ∧ b tn ≤ 1440 * D + ar) : idle ss till b D ⟨sv, fn, dp, tn, ar⟩ := h
theorem pass_go_nat {ss : List Sv} {cs : List Cn} {fr at_ till D : Int} {b b0 : Nat → Int} {again : Bool} {i : Nat} {sv dp ar : Int} {fn tn : Nat} (h : PassB ss cs fr at_ till b0 again b D i) (hc : (⟨sv, fn, dp, tn, ar⟩ : Cn) ∈ cs) (h0 : (fn : Int) < 32) (h1 : (tn : Int) < 32) (hs : stopB fr = true)
    (hr : runsV (svN ss ⟨sv, fn, dp, tn, ar⟩) D = true) (hb : 0 ≤ b fn) (hd : b fn ≤ 1440 * D + dp) (ht : 1440 * D + ar ≤ till) (ha : dp < ar) (hT : till ≤ 1100000000) (hn : b tn < 0 ∨ 1440 * D + ar < b tn) : PassB ss cs fr at_ till b0 true (upd b tn (1440 * D + ar)) D (i + 1) :=
  pass_go h hc (stopB_of ⟨by show (0 : Int) ≤ (fn : Int); omega, h0⟩) (stopB_of ⟨by show (0 : Int) ≤ (tn : Int); omega, h1⟩) hs hr hb hd ht ha hT hn

set_option maxRecDepth 100000 in
set_option maxHeartbeats 16000000 in
theorem rearl13_calls (v : Value) (n : Nw) (fr at_ tu till : Int) (w : World) (hF : Nv13 w v n) (hf : fairN n fr at_ tu till = true) :
    Calls Try.prog 13 #[v, .int .i64 fr, .int .i64 at_, .int .i64 tu, .int .i64 till] w fun e w' => (∃ t, e = .returned (.int .i64 t) ∧ EarlR n fr at_ tu till t) ∧ Ext w w' := by
  obtain ⟨hM, hsf, hst, hb0, hb1, hb2, hb3⟩ := fairN_is hf
  obtain ⟨vS, vC, ws, rfl, ⟨hS, hD⟩, hss, hC⟩ := hF
  obtain ⟨AS, cS, rfl, hcS, hxS⟩ := hS
  obtain ⟨AC, cC, rfl, hcC, hxC⟩ := hC
  obtain ⟨k, hk⟩ : ∃ k, k = ws.length := ⟨_, rfl⟩
  obtain ⟨m, hm⟩ : ∃ m, m = n.cs.length := ⟨_, rfl⟩
  rw [← hk] at hxS hcS ⊢
  rw [← hm] at hxC hcC ⊢
  have hkl : n.ss.length = k := by rw [hss, List.length_map, ← hk]
  have hm100 : m ≤ 100 := by have := (mayN_is hM).2.1; omega
  obtain ⟨f, rfl⟩ : ∃ f : Nat, fr = (f : Int) := ⟨fr.toNat, by have := stopB_is hsf; omega⟩
  obtain ⟨u, rfl⟩ : ∃ u : Nat, tu = (u : Int) := ⟨tu.toNat, by have := stopB_is hst; omega⟩
  have hf32 : (f : Int) < 32 := (stopB_is hsf).2
  have hu32 : (u : Int) < 32 := (stopB_is hst).2
  obtain ⟨A, hA⟩ : ∃ A : Nat, at_ / 1440 = (A : Int) := ⟨(at_ / 1440).toNat, by omega⟩
  obtain ⟨T, hT⟩ : ∃ T : Nat, till / 1440 = (T : Int) := ⟨(till / 1440).toNat, by omega⟩
  have hA' : at_.tdiv 1440 = (A : Int) := by rw [Int.tdiv_eq_ediv_of_nonneg hb0, hA]
  have hT' : till.tdiv 1440 = (T : Int) := by rw [Int.tdiv_eq_ediv_of_nonneg (by omega), hT]
  have hA8 : A ≤ 800000 := by omega
  have hT8 : T ≤ 800000 := by omega
  have hAT : A ≤ T := by omega
  have hAw : IntKind.i64.wrap (A : Int) = (A : Int) := i64_in13 (by omega) (by omega)
  have hTw : IntKind.i64.wrap (T : Int) = (T : Int) := i64_in13 (by omega) (by omega)
  have HX := veil (And.intro hxS hD)
  have HY := veil hxC
  have HR := veil (And.intro hf (And.intro hk (And.intro hm (And.intro hss (And.intro hkl (And.intro hM (And.intro hsf hst)))))))
  have HB := veil (And.intro hb0 (And.intro hb1 (And.intro hb2 (And.intro hb3 (And.intro hA hT)))))
  have hE0 := Ext.alloc w (.cells #[.slice AS k cS, .slice AC m cC] 25)
  have hS0 := NwAt.new w (.slice AS k cS) (.slice AC m cC)
  clear hf hk hm hxS hD hss hkl hxC hM hsf hst hb1 hb2 hb3
  go_enter Try.func13, Try.ntmps13
  go_upto_region 1 with (fail)
  unfold NwAt at hS0
  obtain ⟨g, hg⟩ : ∃ g, g = w.heap.size := ⟨_, rfl⟩
  rw [← hg] at hS0 ⊢
  generalize w.alloc (.cells #[.slice AS k cS, .slice AC m cC] 25) = w0 at *
  have HS := veil (show NwAt w0 g (.slice AS k cS) (.slice AC m cC) from hS0)
  have HE := veil hE0
  clear hE0 hS0 hg
  have hmk := hmk13
  have hP0 : (w0.alloc (.cells (madeCells #[.int .i64 0] 32) 3)).rowIs w0.heap.size 3 32 (fun _ => .int .i64 0) := World.rowIs_made w0 _ 32 _
  have hE1 := Ext.alloc w0 (.cells (madeCells #[.int .i64 0] 32) 3)
  go_upto_region 2 with (fail)
  generalize w0.alloc (.cells (madeCells #[.int .i64 0] 32) 3) = w1 at *
  clear hmk
  go_wp2
  go_loopw [12] (fun v wr => ∃ i : Nat, i ≤ 32 ∧ v = .int .i64 (i : Int) ∧ wr.rowIs w0.heap.size 3 32 (fun j => .int .i64 (if j < i then -1 else 0)) ∧ Ext w0 wr)
    (fun v _ => 32 - (intOf v).toNat)
  case atStart => exact ⟨0, by omega, rfl, hP0.congr fun j _ => by simp, hE1⟩
  case round =>
    clear hP0 hE1
    obtain ⟨i, hi, rfl, hP, hE⟩ := hrel
    by_cases hlt : i < 32
    · have hd1 : decide ((i : Int) < 32) = true := by simp; omega
      have hii : (i : Int) < 32 := by omega
      have c1 := hP.cell hlt
      have f1 := hP.frozen i
      go_wp2
      go_roundw
      case rel =>
        refine ⟨i + 1, by omega, by go_num, (hP.set i _).congr fun j _ => ?_, below_set hE (by omega) _⟩
        by_cases e : j = i
        · rw [if_pos e, if_pos (by omega)]
        · rw [if_neg e]
          by_cases c : j < i
          · rw [if_pos c, if_pos (by omega)]
          · rw [if_neg c, if_neg (by omega)]
      case measure => simp [intOf]; omega
    · have hi32 : i = 32 := by omega
      have hd1 : decide ((i : Int) < 32) = false := by simp; omega
      have c1 := hP.cell (i := f) (by omega)
      have f1 := hP.frozen f
      have hP2 : (wr.setCell ⟨w0.heap.size, f, none⟩ (.int .i64 at_)).rowIs w0.heap.size 3 32 (fun j => .int .i64 (upd (fun _ => -1) f at_ j)) := (hP.set f (.int .i64 at_)).congr fun j hj => by
        unfold upd
        by_cases e : j = f
        · rw [if_pos e, if_pos e]
        · rw [if_neg e, if_neg e, if_pos (by omega)]
      have hE2 : Ext w0 (wr.setCell ⟨w0.heap.size, f, none⟩ (.int .i64 at_)) := below_set hE (by omega) _
      go_upto_region 7 with (fail)
      generalize wr.setCell ⟨w0.heap.size, f, none⟩ (.int .i64 at_) = w2 at *
      clear hd1 c1 f1 hP hE hi hi32 hlt
      generalize i = i32 at *
      go_wp2
      go_loopw [13] (fun v wr => ∃ (ag : Bool) (b : Nat → Int), v = .bool ag ∧ AheadB n.ss n.cs (f : Int) at_ till ag b ∧ wr.rowIs w0.heap.size 3 32 (fun j => .int .i64 (b j)) ∧ Ext w0 wr)
        (fun v wr => 2 * mu till (rowB wr w0.heap.size) + bN v)
      case atStart => exact ⟨true, _, rfl, inv_start HR.out.2.2.2.2.2.2.1 HB.out.1 HB.out.2.1, hP2, hE2⟩
      case round =>
        clear hP2 hE2
        obtain ⟨ag, b0, rfl, hAh, hP, hE⟩ := hrel
        have hmu0 := mu_row (till := till) hP
        cases ag with
        | false =>
          have hres := done_ref hAh HR.out.1
          have c1 := hP.cell (i := u) (by omega)
          have e : ((u : Int)).toNat = u := by omega
          rw [e] at hres
          have HZ := veil (And.intro hres hE)
          clear hAh hP hE hmu0 hres e
          go_wp2
          go_ret
          exact ⟨⟨_, rfl, HZ.out.1⟩, HE.out.trans HZ.out.2⟩
        | true =>
          obtain ⟨wo, hwo⟩ : ∃ wo : World, wo = wr := ⟨_, rfl⟩
          rw [← hwo] at hP hE hmu0 ⊢
          clear hwo
          have HO := veil (And.intro hAh hmu0)
          clear hAh hmu0
          go_wp2
          go_loopw [13, 14] (fun v dv wr => ∃ (ag : Bool) (b : Nat → Int) (D : Nat), v = .bool ag ∧ dv = .int .i64 (D : Int) ∧ A ≤ D ∧ D ≤ T + 1 ∧ PassB n.ss n.cs (f : Int) at_ till b0 ag b (D : Int) 0 ∧ wr.rowIs w0.heap.size 3 32 (fun j => .int .i64 (b j)) ∧ Ext w0 wr)
            (fun _ dv _ => T + 1 - (intOf dv).toNat)
          case atStart => exact ⟨false, b0, A, rfl, rfl, Nat.le_refl _, by omega, by have := pass_start HO.out.1; rwa [HB.out.2.2.2.2.1] at this, hP, hE⟩
          case round =>
            clear hP hE
            obtain ⟨ag, b, D, rfl, rfl, hD0, hD1, hPa, hP, hE⟩ := hrel
            by_cases hlt : D ≤ T
            · have hd1 : decide ((D : Int) ≤ (T : Int)) = true := by simp; omega
              have hDw : IntKind.i64.wrap (1440 * (D : Int)) = 1440 * (D : Int) := i64_in13 (by omega) (by omega)
              obtain ⟨wo2, hwo⟩ : ∃ wo : World, wo = wr := ⟨_, rfl⟩
              rw [← hwo] at hP hE ⊢
              clear hwo
              have HO2 := veil hPa
              clear hPa
              go_wp2
              go_loopw [13, 15] (fun v iv wr => ∃ (ag : Bool) (b : Nat → Int) (i : Nat), v = .bool ag ∧ iv = .int .i64 (i : Int) ∧ i ≤ m ∧ PassB n.ss n.cs (f : Int) at_ till b0 ag b (D : Int) i ∧ wr.rowIs w0.heap.size 3 32 (fun j => .int .i64 (b j)) ∧ Ext w0 wr)
                (fun _ iv _ => m - (intOf iv).toNat)
              case atStart => exact ⟨ag, b, 0, rfl, rfl, by omega, HO2.out, hP, hE⟩
              case round =>
                clear hP hE HO2
                obtain ⟨ag, b, i, rfl, rfl, hi, hPa, hP, hE⟩ := hrel
                have c1 := (HS.out.ext hE).at1
                by_cases hlt2 : i < m
                · have hd2 : decide ((i : Int) < (m : Int)) = true := by simp; omega
                  have hii : (i : Int) < (m : Int) := by omega
                  obtain ⟨bC, oC, hAC, hbC, hclC⟩ := HY.out.resolve_left (by omega)
                  have hil : i < n.cs.length := by have := HR.out.2.2.1; omega
                  have hrgC := range_ext (HE.out.trans hE) hbC (hclC i _ (cn_get hil))
                  have hok := (mayN_is HR.out.2.2.2.2.2.1).2.2.2 i hil
                  have hmem := c_mem hil
                  rw [HR.out.2.2.2.2.1] at hok
                  obtain ⟨c, hc⟩ : ∃ c, c = n.cs.getD i noCn := ⟨_, rfl⟩
                  rw [← hc] at hrgC hok hmem
                  obtain ⟨sv, fr, dp, tu, ar⟩ := c
                  obtain ⟨o1, o2, o3, o4, o5, o6, o7, o8⟩ := hok
                  simp only at o1 o2 o3 o4 o5 o6 o7 o8
                  obtain ⟨sn, rfl⟩ : ∃ sn : Nat, sv = (sn : Int) := ⟨sv.toNat, by omega⟩
                  obtain ⟨fn, rfl⟩ : ∃ fn : Nat, fr = (fn : Int) := ⟨fr.toNat, by have := stopB_is o3; omega⟩
                  obtain ⟨tn, rfl⟩ : ∃ tn : Nat, tu = (tn : Int) := ⟨tu.toNat, by have := stopB_is o4; omega⟩
                  have hf2 : (fn : Int) < 32 := (stopB_is o3).2
                  have ht2 : (tn : Int) < 32 := (stopB_is o4).2
                  obtain ⟨bS, oS, hAS, hbS, hclS⟩ := HX.out.1.resolve_left (by omega)
                  have hsl : sn < ws.length := by have := HR.out.2.1; omega
                  have hdd := HX.out.2 _ (sw_mem hsl)
                  have hsx := hclS sn _ (sw_get hsl)
                  obtain ⟨x, hx⟩ : ∃ x, x = ws.getD sn noSw := ⟨_, rfl⟩
                  rw [← hx] at hdd hsx
                  have hsv : svN n.ss ⟨(sn : Int), (fn : Int), dp, (tn : Int), ar⟩ = x.1 := by
                    show n.ss.getD sn noSv = x.1
                    rw [HR.out.2.2.2.1, sw_fst, ← hx]
                  have hmx : mayV x.1 = true := by
                    have := (mayN_is HR.out.2.2.2.2.2.1).2.2.1 sn (by have := HR.out.2.2.2.2.1; omega)
                    rwa [HR.out.2.2.2.1, sw_fst, ← hx] at this
                  have KR := veil (fun W (h : Ext w W) => rruns12_calls (.agg (swC x).toArray) x.1 (D : Int) W ⟨_, _, rfl, hdd.1.ext h, hdd.2.ext h⟩ hmx)
                  obtain ⟨RN, hRN⟩ : ∃ RN, RN = runsV x.1 (D : Int) := ⟨_, rfl⟩
                  rw [← hRN] at KR
                  have HGC := veil hrgC
                  have HGS := veil (And.intro hbS hsx)
                  have HI := veil (And.intro hPa (And.intro hmem (And.intro hc (And.intro hsv (And.intro hRN (And.intro o3 o4))))))
                  subst hAC hAS
                  clear hrgC hc hmem hbC hclC hil hdd hsx hx hsv hmx hRN hclS hbS hPa o1 o3 o4 hsl
                  have hEW := Ext.alloc wr (.cells (cnC ⟨(sn : Int), (fn : Int), dp, (tn : Int), ar⟩).toArray 39)
                  have hgb : CnAt (wr.alloc (.cells (cnC ⟨(sn : Int), (fn : Int), dp, (tn : Int), ar⟩).toArray 39)) wr.heap.size ⟨(sn : Int), (fn : Int), dp, (tn : Int), ar⟩ := heap_new wr _
                  go_upto_region 17 with (first
                    | ((with_reducible refine at_slot 52 ?_); refine wpList_load_mid rfl 39 _ rfl bC _ rfl (cnC ⟨(sn : Int), (fn : Int), dp, (tn : Int), ar⟩) _ HGC.out Try.underlying39 rfl (iCn _) ?_)
                    | ((with_reducible refine at_none ?_); refine wpList_store_row rfl 39 _ _ rfl wr.heap.size (cnC ⟨(sn : Int), (fn : Int), dp, (tn : Int), ar⟩).toArray rfl rfl 39 _ (heap_new wr _) (iCnA _) rfl (cnA_one _) ?_; rw [World.setRow_alloc_new]))
                  have hPW := row_below hP hEW hP.lt
                  have hE2 := hE.trans hEW
                  generalize wr.alloc (.cells (cnC ⟨(sn : Int), (fn : Int), dp, (tn : Int), ar⟩).toArray 39) = W at *
                  generalize wr.heap.size = gf at *
                  have e0 := hgb.at0
                  have c0 := (HS.out.ext hE2).at0
                  simp only at e0
                  have HGS2 := veil (range_ext (HE.out.trans hE2) HGS.out.1 HGS.out.2)
                  have HW := veil (And.intro hgb (And.intro hPW hE2))
                  clear hgb hPW hE2 hEW hP hE HGC HGS c1
                  go_upto_region 18 with (first
                    | ((with_reducible refine at_slot 58 ?_); refine wpList_load_mid rfl 43 _ rfl bS _ rfl (swC x) _ HGS2.out Try.underlying43 rfl (iSw x) ?_)
                    | (go_at_call 23; refine (KR.out _ (HE.out.trans HW.out.2.2)).mono ?_; rintro e w3 ⟨rfl, hE3⟩))
                  have hg3 := HW.out.1.ext hE3
                  have hP3 := row_below HW.out.2.1 hE3 HW.out.2.1.lt
                  have hE4 := HW.out.2.2.trans hE3
                  clear e0 c0 HGS2 HW hE3 KR
                  have e1 := hg3.at1
                  have e2 := hg3.at2
                  have e3 := hg3.at3
                  have e4 := hg3.at4
                  simp only at e1 e2 e3 e4
                  have kd : IntKind.i64.wrap (1440 * (D : Int) + dp) = 1440 * (D : Int) + dp := by exact i64_in13 (by omega) (by omega)
                  have ka : IntKind.i64.wrap (1440 * (D : Int) + ar) = 1440 * (D : Int) + ar := by exact i64_in13 (by omega) (by omega)
                  go_upto_region 20 with (fail)
                  have cf := hP3.cell (i := fn) (by omega)
                  have ct := hP3.cell (i := tn) (by omega)
                  have ft := hP3.frozen tn
                  obtain ⟨xf, hxf⟩ : ∃ z, z = b fn := ⟨_, rfl⟩
                  obtain ⟨xt, hxt⟩ : ∃ z, z = b tn := ⟨_, rfl⟩
                  rw [← hxf] at cf
                  rw [← hxt] at ct
                  have HQ := veil (And.intro hP3 (And.intro hE4 (And.intro hxf (And.intro hxt (And.intro o7 HB.out.2.2.2.1)))))
                  have hTill : till ≤ 1100000000 := by have := HB.out.2.1; have := HB.out.2.2.2.1; omega
                  have HT := veil hTill
                  clear hP3 hE4 hxf hxt kd ka hg3 e2 e4 hTill o5 o6 o7 o8
                  cases RN with
                  | false =>
                    have HJ := veil (pass_skip HI.out.1 (by rw [← HI.out.2.2.1]; exact idle_of fun hr => by rw [HI.out.2.2.2.1, ← HI.out.2.2.2.2.1] at hr; cases hr))
                    go_wp2
                    go_roundw
                    case rel => exact ⟨ag, b, i + 1, rfl, by go_num, by omega, HJ.out, HQ.out.1, HQ.out.2.1⟩
                    case measure => simp [intOf]; omega
                  | true =>
                    by_cases g0 : xf < 0
                    · have f0 : decide (xf < 0) = true := decide_eq_true g0
                      have HJ := veil (pass_skip HI.out.1 (by rw [← HI.out.2.2.1]; exact idle_of fun _ h => by rw [← HQ.out.2.2.1] at h; omega))
                      go_wp2
                      go_roundw
                      case rel => exact ⟨ag, b, i + 1, rfl, by go_num, by omega, HJ.out, HQ.out.1, HQ.out.2.1⟩
                      case measure => simp [intOf]; omega
                    have f0 : decide (xf < 0) = false := decide_eq_false g0
                    by_cases g1 : (1440 * (D : Int) + dp) < xf
                    · have f1 : decide ((1440 * (D : Int) + dp) < xf) = true := decide_eq_true g1
                      have HJ := veil (pass_skip HI.out.1 (by rw [← HI.out.2.2.1]; exact idle_of fun _ _ h => by rw [← HQ.out.2.2.1] at h; omega))
                      go_wp2
                      go_roundw
                      case rel => exact ⟨ag, b, i + 1, rfl, by go_num, by omega, HJ.out, HQ.out.1, HQ.out.2.1⟩
                      case measure => simp [intOf]; omega
                    have f1 : decide ((1440 * (D : Int) + dp) < xf) = false := decide_eq_false g1
                    by_cases g2 : till < (1440 * (D : Int) + ar)
                    · have f2 : decide (till < (1440 * (D : Int) + ar)) = true := decide_eq_true g2
                      have HJ := veil (pass_skip HI.out.1 (by rw [← HI.out.2.2.1]; exact idle_of fun _ _ _ h => by omega))
                      go_wp2
                      go_roundw
                      case rel => exact ⟨ag, b, i + 1, rfl, by go_num, by omega, HJ.out, HQ.out.1, HQ.out.2.1⟩
                      case measure => simp [intOf]; omega
                    have f2 : decide (till < (1440 * (D : Int) + ar)) = false := decide_eq_false g2
                    have hgo : (xt < 0 ∨ (1440 * (D : Int) + ar) < xt) → PassB n.ss n.cs (f : Int) at_ till b0 true (upd b tn (1440 * (D : Int) + ar)) (D : Int) (i + 1) := fun h => by
                        exact pass_go_nat HI.out.1 HI.out.2.1 hf2 ht2 HR.out.2.2.2.2.2.2.1 (by rw [HI.out.2.2.2.1]; exact HI.out.2.2.2.2.1.symm) (by rw [← HQ.out.2.2.1]; omega) (by rw [← HQ.out.2.2.1]; omega) (by omega) HQ.out.2.2.2.2.1 HT.out (by rw [← HQ.out.2.2.2.1]; exact h)
                    have hPs : (w3.setCell ⟨w0.heap.size, tn, none⟩ (.int .i64 (1440 * (D : Int) + ar))).rowIs w0.heap.size 3 32 (fun j => .int .i64 (upd b tn (1440 * (D : Int) + ar) j)) := (HQ.out.1.set tn (.int .i64 (1440 * (D : Int) + ar))).congr fun j _ => by
                      unfold upd
                      by_cases e : j = tn
                      · rw [if_pos e, if_pos e]
                      · rw [if_neg e, if_neg e]
                    have hEs : Ext w0 (w3.setCell ⟨w0.heap.size, tn, none⟩ (.int .i64 (1440 * (D : Int) + ar))) := below_set HQ.out.2.1 (Nat.le_refl _) _
                    have HPS := veil (And.intro hPs hEs)
                    clear hPs hEs
                    by_cases g3 : xt < 0
                    · have f3 : decide (xt < 0) = true := decide_eq_true g3
                      have HJ := veil (hgo (.inl g3))
                      clear hgo
                      go_wp2
                      go_roundw
                      case rel => exact ⟨true, _, i + 1, rfl, by go_num, by omega, HJ.out, HPS.out.1, HPS.out.2⟩
                      case measure => simp [intOf]; omega
                    have f3 : decide (xt < 0) = false := decide_eq_false g3
                    by_cases g4 : (1440 * (D : Int) + ar) < xt
                    · have f4 : decide ((1440 * (D : Int) + ar) < xt) = true := decide_eq_true g4
                      have HJ := veil (hgo (.inr g4))
                      clear hgo
                      go_wp2
                      go_roundw
                      case rel => exact ⟨true, _, i + 1, rfl, by go_num, by omega, HJ.out, HPS.out.1, HPS.out.2⟩
                      case measure => simp [intOf]; omega
                    have f4 : decide ((1440 * (D : Int) + ar) < xt) = false := decide_eq_false g4
                    have HJ := veil (pass_skip HI.out.1 (by rw [← HI.out.2.2.1]; exact idle_of fun _ _ _ _ => by rw [← HQ.out.2.2.2.1]; omega))
                    clear hgo
                    go_wp2
                    go_roundw
                    case rel => exact ⟨ag, b, i + 1, rfl, by go_num, by omega, HJ.out, HQ.out.1, HQ.out.2.1⟩
                    case measure => simp [intOf]; omega
                · obtain rfl : i = m := by omega
                  have hd2 : decide ((i : Int) < (i : Int)) = false := by simp
                  go_wp2
                  go_roundw
                  case rel => exact ⟨ag, b, D + 1, rfl, by go_num, by omega, by omega, pass_day hPa (by have := HR.out.2.2.1; omega), hP, hE⟩
                  case measure => simp [intOf]; omega
            · have hd1 : decide ((D : Int) ≤ (T : Int)) = false := by simp; omega
              obtain ⟨h1, h2⟩ := ahead_end hPa (by have := HB.out.2.2.2.2.2; omega)
              have hmu := mu_row (till := till) hP
              go_wp2
              go_roundw
              case rel => exact ⟨ag, b, rfl, h1, hP, hE⟩
              case measure =>
                rw [hmu, HO.out.2]
                cases ag <;> simp [bN] at h2 ⊢ <;> omega
end Go.Proofs.Ytebcdhfmhnhalaa
