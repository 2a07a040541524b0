/-
  ShaTwins: a hash and its twin go their own ways. The package's table of round words is as its initialiser laid it (the tied row's condition).
-/
import Derived.Test.YtihjmfonalohaaaDoorHLaw
import Derived.Test.YtihjmfonalohaaaDoorTie
import Derived.Test.YtihjmfonalohaaaDoorCards
import Derived.SevenTiedAt
import Derived.WalkKit
import Derived.WalkSpells
import Derived.WalkLawsBesides
import Derived.Deep.Cut
import Derived.Deep.CutRange
namespace Go.Proofs.YtihjmfonalohaaaDoor
open Go.RowKit

set_option maxRecDepth 100000 in
set_option maxHeartbeats 4000000 in
theorem twins_big (A0 A1 A2 : Option Addr) (n0 c0 n1 c1 n2 c2 : Nat) (hb : 2000 < n0 ∨ 2000 < n1 ∨ 2000 < n2) (w : World) (hK : KT w) :
    Calls Tryd.prog 6 #[.slice A0 n0 c0, .slice A1 n1 c1, .slice A2 n2 c2] w fun e w' => e = .returned (.bool true) ∧ Below w.heap.size w w' := by
  have h1 : 2000 < n0 ∨ (n0 ≤ 2000 ∧ 2000 < n1) ∨ (n0 ≤ 2000 ∧ n1 ≤ 2000 ∧ 2000 < n2) := by omega
  clear hb
  rcases h1 with h | ⟨h, h2⟩ | ⟨h, h2, h3⟩
  all_goals
    go_enter Tryd.func6, Tryd.ntmps6
    go_wp2_with fail
    refine (up_calls w hK).mono ?_
    rintro e w1 ⟨rfl, hb1⟩
    go_wp2_with fail
    refine (new_calls w1).mono ?_
    rintro e w2 ⟨rfl, _, hb2⟩
    have hB2 := hb1.trans (hb2.mono hb1.size)
    clear hb1 hb2 hK
    go_wp2
    go_ret
    exact ⟨rfl, hB2⟩

set_option maxRecDepth 100000 in
set_option maxHeartbeats 4000000 in
theorem twins_small (A0 A1 A2 : Option Addr) (n0 c0 n1 c1 n2 c2 : Nat) (y0 y1 y2 : Nat → Nat) (hy0 : ∀ j, y0 j < 256) (hy1 : ∀ j, y1 j < 256) (hy2 : ∀ j, y2 j < 256)
    (hn0 : n0 ≤ 2000) (hn1 : n1 ≤ 2000) (hn2 : n2 ≤ 2000) (hc0 : n0 ≤ c0) (hc1 : n1 ≤ c1) (hc2 : n2 ≤ c2) (w : World) (hK : KT w)
    (hS0 : Src w A0 n0 y0 w.heap.size) (hS1 : Src w A1 n1 y1 w.heap.size) (hS2 : Src w A2 n2 y2 w.heap.size) :
    Calls Tryd.prog 6 #[.slice A0 n0 c0, .slice A1 n1 c1, .slice A2 n2 c2] w fun e w' => e = .returned (.bool true) ∧ Below w.heap.size w w' := by
  obtain ⟨i8, hi8, hz0, hz1, hz2⟩ := info_parts infoB3
  have HI := veil (And.intro hi8 (And.intro hz0 (And.intro hz1 hz2)))
  have HY0 := veil hy0
  have HY1 := veil hy1
  have HY2 := veil hy2
  have i0 : (n0 : Int) ≤ 2000 := by omega
  have i1 : (n1 : Int) ≤ 2000 := by omega
  have i2 : (n2 : Int) ≤ 2000 := by omega
  have HS0 := veil hS0
  have HS1 := veil hS1
  have HS2 := veil hS2
  have HK := veil hK
  have hg0 := hK.lt
  clear hi8 hz0 hz1 hz2 hy0 hy1 hy2 hS0 hS1 hS2
  go_enter Tryd.func6, Tryd.ntmps6
  go_wp2_with fail
  refine (up_calls w hK).mono ?_
  rintro e w1 ⟨rfl, hb1⟩
  clear hK
  go_wp2_with fail
  refine (new_calls w1).mono ?_
  rintro e w2 ⟨rfl, hH, hb2⟩
  have hB2 := hb1.trans (hb2.mono hb1.size)
  have hle := hb1.size
  have hH2 := hH (fun _ => 0)
  generalize hgw : w1.heap.size = gH at *
  clear hb1 hb2 hH hgw
  go_wp2_with fail
  refine (write_calls gH (fun _ => 0) 0 A0 n0 c0 y0 HY0.out hc0 (by omega) (by omega) w2 (kt_now HK.out hB2) hH2 (src_now HS0.out hB2 hle)).mono ?_
  rintro e w3 ⟨rfl, hH3, hb3⟩
  rw [cat_none, Nat.zero_add] at hH3
  have hB3 := but_below hB2 hb3 hle
  clear hB2 hH2 hb3
  go_wp2_with fail
  refine (clone_calls gH n0 y0 w3 hH3).mono ?_
  rintro e w4 ⟨rfl, hG4, hb4⟩
  have hH4 := hH3.call hb4
  have hgG := hH3.lt
  have hB4 := hB3.trans (hb4.mono hB3.size)
  generalize w3.heap.size = gG at *
  clear hB3 hH3 hb4
  go_wp2_with fail
  refine (write_calls gH y0 n0 A1 n1 c1 y1 HY1.out hc1 (by omega) (by omega) w4 (kt_now HK.out hB4) hH4 (src_now HS1.out hB4 hle)).mono ?_
  rintro e w5 ⟨rfl, hH5, hb5⟩
  have hG5 := hG4.but hb5 (by omega)
  have hB5 := but_below hB4 hb5 hle
  clear hB4 hH4 hG4 hb5
  go_wp2_with fail
  refine (write_calls gG y0 n0 A2 n2 c2 y2 HY2.out hc2 (by omega) (by omega) w5 (kt_now HK.out hB5) hG5 (src_now HS2.out hB5 (by omega))).mono ?_
  rintro e w6 ⟨rfl, hG6, hb6⟩
  have hH6 := hH5.but hb6 (by omega)
  have hB6 := but_below hB5 hb6 (by omega)
  clear hB5 hH5 hG5 hb6
  obtain ⟨D1, hD1⟩ : ∃ D, D = dgst (cat y0 n0 y1) (n0 + n1) := ⟨_, rfl⟩
  obtain ⟨D2, hD2⟩ : ∃ D, D = dgst (cat y0 n0 y2) (n0 + n2) := ⟨_, rfl⟩
  have kq1 := fun W => eql_dgst (cat y0 n0 y1) (n0 + n1) W
  have kq2 := fun W => eql_dgst (cat y0 n0 y2) (n0 + n2) W
  rw [← hD1] at kq1
  rw [← hD2] at kq2
  have HD1 := veil hD1
  have HD2 := veil hD2
  clear hD1 hD2
  go_wp2_with fail
  refine (hsum_calls gH (n0 + n1) (cat y0 n0 y1) (by omega) w6 (kt_now HK.out hB6) hH6).mono ?_
  rintro e w7 ⟨rfl, hb7⟩
  rw [← HD1.out]
  have hH7 := hH6.call hb7
  have hG7 := hG6.call hb7
  have hB7 := hB6.trans (hb7.mono hB6.size)
  clear hB6 hH6 hG6 hb7
  have H7 := veil (And.intro hB7 (And.intro hH7 hG7))
  have hgR : gH < gG := by omega
  have HE := veil (And.intro hle hgR)
  have HO := veil (Own.made (e := 5) (f := fun _ => .int .u8 0) w7 (cs := #[]) (base := gG + 1) (by have := hG7.lt; omega) (by decide) (fun i hi => by simp at hi))
  have HB7 := veil (hB7.alloc hB7.size (.cells #[] 5))
  have HH7 := veil (And.intro (hH7.alloc (.cells #[] 5)) (hG7.alloc (.cells #[] 5)))
  have hz7 := hG7.lt
  clear hB7 hH7 hG7
  go_wp2_with (first
    | ((with_reducible refine at_slot 53 ?_); refine wpList_append_wanted _ (by rfl) _ _ 22 rfl (gG + 1) 5 i8 (.int .u8 0) 1 Tryd.underlying22 HI.out.1 HI.out.2.1 HI.out.2.2.1 HI.out.2.2.2 rfl (.slice (some ⟨w7.heap.size, 0, none⟩) 0 0) 0 _ rfl HO.out A0 n0 c0 rfl _ (from_now HS0.out HB7.out) (fun _ => rfl) (by unfold maxLen; omega) (by omega) (by simp; omega) ?_; intro v3 w8 hO8 hg8 _; have H8 := veil (app_keep HB7.out HH7.out.1 HH7.out.2 hg8 (fun k e => by simp [Value.ownBlock] at e; omega) HE.out.1 HE.out.2); have hz8 := H8.out.2.2.lt; have HO8 := veil (own_first (f := fun j => .int .u8 (y0 j : Nat)) hO8); clear hg8 hO8)
    | ((with_reducible refine at_slot 55 ?_); refine wpList_append_wanted _ (by rfl) _ _ 22 rfl (gG + 1) 5 i8 (.int .u8 0) 1 Tryd.underlying22 HI.out.1 HI.out.2.1 HI.out.2.2.1 HI.out.2.2.2 rfl v3 n0 _ rfl HO8.out A1 n1 c1 rfl _ (from_now HS1.out H8.out.1) (fun _ => rfl) (by unfold maxLen; omega) (by omega) (by omega) ?_; intro v4 w9 hO9 hg9 _; have H9 := veil (app_keep H8.out.1 H8.out.2.1 H8.out.2.2 hg9 (fun k e => (HO8.out.lt e).1) HE.out.1 HE.out.2); obtain ⟨A4, c4, rfl, hc4, hS4⟩ := src_own (g := w9.heap.size) (own_cat hO9) (fun b e => by have := (hO9.lt e).2; omega); have HS4 := veil hS4; clear hg9 hO9 hS4)
    | (go_at_call 8; ((refine (sum_calls A4 (n0 + n1) c4 (cat y0 n0 y1) (cat_lt HY0.out HY1.out) hc4 (by omega) _ (kt_now HK.out H9.out.1) HS4.out).mono ?_); rintro e w10 ⟨rfl, hb10⟩; rw [← HD1.out]; have H10 := veil (And.intro (H9.out.1.trans (hb10.mono H9.out.1.size)) (And.intro (H9.out.2.1.call hb10) (H9.out.2.2.call hb10))); clear hb10))
    | fail)
  refine (hsum_calls gG (n0 + n2) (cat y0 n0 y2) (by omega) w10 (kt_now HK.out H10.out.1) H10.out.2.2).mono ?_
  rintro e w11 ⟨rfl, hb11⟩
  rw [← HD2.out]
  have H11 := veil (And.intro (H10.out.1.trans (hb11.mono H10.out.1.size)) (And.intro (H10.out.2.1.call hb11) (H10.out.2.2.call hb11)))
  have hz11 := H11.out.2.2.lt
  clear hb11 H7 H8 H9 H10 HO HB7 HH7 HO8 HS4 hz7 hz8 kq1 hc4 HD1
  have HO := veil (Own.made (e := 5) (f := fun _ => .int .u8 0) w11 (cs := #[]) (base := gG + 1) (by omega) (by decide) (fun i hi => by simp at hi))
  have HB7 := veil (H11.out.1.alloc H11.out.1.size (.cells #[] 5))
  have HH7 := veil (And.intro (H11.out.2.1.alloc (.cells #[] 5)) (H11.out.2.2.alloc (.cells #[] 5)))
  go_wp2_with (first
    | ((with_reducible refine at_slot 64 ?_); refine wpList_append_wanted _ (by rfl) _ _ 22 rfl (gG + 1) 5 i8 (.int .u8 0) 1 Tryd.underlying22 HI.out.1 HI.out.2.1 HI.out.2.2.1 HI.out.2.2.2 rfl (.slice (some ⟨w11.heap.size, 0, none⟩) 0 0) 0 _ rfl HO.out A0 n0 c0 rfl _ (from_now HS0.out HB7.out) (fun _ => rfl) (by unfold maxLen; omega) (by omega) (by simp; omega) ?_; intro v3 w8 hO8 hg8 _; have H8 := veil (app_keep HB7.out HH7.out.1 HH7.out.2 hg8 (fun k e => by simp [Value.ownBlock] at e; omega) HE.out.1 HE.out.2); have hz8 := H8.out.2.2.lt; have HO8 := veil (own_first (f := fun j => .int .u8 (y0 j : Nat)) hO8); clear hg8 hO8)
    | ((with_reducible refine at_slot 66 ?_); refine wpList_append_wanted _ (by rfl) _ _ 22 rfl (gG + 1) 5 i8 (.int .u8 0) 1 Tryd.underlying22 HI.out.1 HI.out.2.1 HI.out.2.2.1 HI.out.2.2.2 rfl v3 n0 _ rfl HO8.out A2 n2 c2 rfl _ (from_now HS2.out H8.out.1) (fun _ => rfl) (by unfold maxLen; omega) (by omega) (by omega) ?_; intro v4 w9 hO9 hg9 _; have H9 := veil (app_keep H8.out.1 H8.out.2.1 H8.out.2.2 hg9 (fun k e => (HO8.out.lt e).1) HE.out.1 HE.out.2); obtain ⟨A5, c5, rfl, hc5, hS5⟩ := src_own (g := w9.heap.size) (own_cat hO9) (fun b e => by have := (hO9.lt e).2; omega); have HS5 := veil hS5; clear hg9 hO9 hS5)
    | (go_at_call 8; ((refine (sum_calls A5 (n0 + n2) c5 (cat y0 n0 y2) (cat_lt HY0.out HY2.out) hc5 (by omega) _ (kt_now HK.out H9.out.1) HS5.out).mono ?_); rintro e w10 ⟨rfl, hb10⟩; rw [← HD2.out]; have H10 := veil (And.intro (H9.out.1.trans (hb10.mono H9.out.1.size)) (And.intro (H9.out.2.1.call hb10) (H9.out.2.2.call hb10))); clear hb10))
    | (go_at_call 12; (first
      | ((with_reducible refine (len_calls gH (n0 + n1) (cat y0 n0 y1) _ ?hH).mono ?_); (· exact H10.out.2.1); rintro e w' ⟨rfl, rfl⟩)
      | ((with_reducible refine (len_calls gG (n0 + n2) (cat y0 n0 y2) _ ?hG).mono ?_); (· exact H10.out.2.2); rintro e w' ⟨rfl, rfl⟩)))
    | fail)
  go_ret
  exact ⟨rfl, H10.out.1⟩

/-! ### the statement -/
section
open Go.ChangeShapes Go.WideShapes Go.ChangeAt
theorem twins_walk (A0 A1 A2 : Option Addr) (n0 c0 n1 c1 n2 c2 : Nat) (y0 y1 y2 : Nat → Nat) (hy0 : ∀ j, y0 j < 256) (hy1 : ∀ j, y1 j < 256) (hy2 : ∀ j, y2 j < 256)
    (hc0 : n0 ≤ c0) (hc1 : n1 ≤ c1) (hc2 : n2 ≤ c2) (w : World) (hK : KT w)
    (hS0 : Src w A0 n0 y0 w.heap.size) (hS1 : Src w A1 n1 y1 w.heap.size) (hS2 : Src w A2 n2 y2 w.heap.size) :
    Calls Tryd.prog 6 #[.slice A0 n0 c0, .slice A1 n1 c1, .slice A2 n2 c2] w fun e w' => e = .returned (.bool true) ∧ Below w.heap.size w w' := by
  by_cases h : 2000 < n0 ∨ 2000 < n1 ∨ 2000 < n2
  · exact twins_big A0 A1 A2 n0 c0 n1 c1 n2 c2 h w hK
  · exact twins_small A0 A1 A2 n0 c0 n1 c1 n2 c2 y0 y1 y2 hy0 hy1 hy2 (by omega) (by omega) (by omega) hc0 hc1 hc2 w hK hS0 hS1 hS2
set_option maxRecDepth 100000 in
theorem ShaTwins_lifted (os : Os) (started : os.Started) (H : Type) (enc : TypeId × Value → H) :
    ReturnsInHanded {} Tryd.checked os 6 .any (fun w args => (Rows.shaTwinsSpec.pre enc Tryd.prog Tryd.f6 [] false w args ∧ laidMetH Tryd.prog Rows.shaTwinsRow.laid w) ∧ sizedMet enc Tryd.prog Tryd.f6 (OpenSpec.ofChange Rows.shaTwinsSpec) false w args)
      (Rows.shaTwinsSpec.post enc Tryd.prog Tryd.f6 false true false false) := by
  refine returnsInHanded_of_change_and (C := Tryd.checked) (X := fun w _ => laidMetH Tryd.prog Rows.shaTwinsRow.laid w) (fun _ _ _ hh h => h.of_heap hh) own started (by kernel_rfl) Tryd.func6
    (ChangeSpec.witness_shaped (enc := enc) (C := Tryd.checked) (os := os) (X := fun w _ => laidMetH Tryd.prog Rows.shaTwinsRow.laid w) false (World.doorLaid Tryd.prog 14 os) #[.slice none 0 0, .slice none 0 0, .slice none 0 0] 8 rfl (World.shaped_of_RefB (by kernel_rfl) (by kernel_rfl)) (by kernel_rfl) (by kernel_rfl) (by kernel_rfl) (door_met os _)) ?_
  intro W base args ds gs before hval0 hW _ _ hL _
  have hval : ∀ (j : Nat) t v, Tryd.f6.params[j]? = some t → args[j]? = some v → Value.okWide Tryd.prog W .any base t v := hval0
  have hW' := hW
  obtain ⟨p, q, hA0, hV, rfl, _, _⟩ := hW
  have hA : DataW.TrodAll enc Tryd.prog W 0 (fun _ => true) true Tryd.f6.params.toList args.toList ds p := hA0
  rw [Tryd.params6] at hA hval
  obtain ⟨v0, v1, v2, d0, d1, d2, p0, p1, p2, rfl, rfl, rfl, h0, h1, h2⟩ := trodAll_three hA
  obtain ⟨rfl, rfl⟩ := trodVars_none hV
  obtain ⟨a0, len0, cap0, rfl⟩ := okWide_slice Tryd.underlying22 (hval 0 22 v0 rfl rfl)
  obtain ⟨a1, len1, cap1, rfl⟩ := okWide_slice Tryd.underlying22 (hval 1 22 v1 rfl rfl)
  obtain ⟨a2, len2, cap2, rfl⟩ := okWide_slice Tryd.underlying22 (hval 2 22 v2 rfl rfl)
  have h0k := h0
  obtain ⟨fuel0, hf0⟩ := h0
  have h1k := h1
  obtain ⟨fuel1, hf1⟩ := h1
  have h2k := h2
  obtain ⟨fuel2, hf2⟩ := h2
  clear hA0 hval0
  simp only [List.append_nil] at hW'
  have hlt0 : ∀ x ∈ p0, x.block < W.heap.size := fun x hx => by simpa using hW'.lt x (by simp [hx])
  have hlt1 : ∀ x ∈ p1, x.block < W.heap.size := fun x hx => by simpa using hW'.lt x (by simp [hx])
  have hlt2 : ∀ x ∈ p2, x.block < W.heap.size := fun x hx => by simpa using hW'.lt x (by simp [hx])
  obtain ⟨y0, hy0, hs0, hlc0⟩ := src_of (by simpa [Value.cells] using hf0) hlt0
  obtain ⟨y1, hy1, hs1, hlc1⟩ := src_of (by simpa [Value.cells] using hf1) hlt1
  obtain ⟨y2, hy2, hs2, hlc2⟩ := src_of (by simpa [Value.cells] using hf2) hlt2
  refine (twins_walk a0 a1 a2 len0 cap0 len1 cap1 len2 cap2 y0 y1 y2 hy0 hy1 hy2 hlc0 hlc1 hlc2 W (kt_of_laid hL) hs0 hs1 hs2).mono fun e W' ⟨he, hb⟩ => ?_
  subst he
  exact ⟨_, rfl, _, _, _, [], _, [], hW', trodAll_mk1 (shut_bool Tryd.underlying4 true), trodAll_mk3 (Below.trod laidOut (by kernel_rfl) (of_decide_eq_true (by kernel_rfl)) h0k hb hlt0) (Below.trod laidOut (by kernel_rfl) (of_decide_eq_true (by kernel_rfl)) h1k hb hlt1) (Below.trod laidOut (by kernel_rfl) (of_decide_eq_true (by kernel_rfl)) h2k hb hlt2), rfl, hb.frame _, fun h => by cases h⟩

theorem ShaTwins_over : Rows.shaTwinsRow.holds Tryd.pinned (OpenSpec.ofChange Rows.shaTwinsSpec) :=
  OpenClaim.holds_of_wide 6 Tryd.f6 rfl rfl rfl rfl rfl rfl rfl ⟨rfl, rfl, rfl, rfl, rfl⟩ rfl rfl rfl rfl rfl (by kernel_rfl) Tryd.func6 (by kernel_rfl)
    (of_decide_eq_true (by kernel_rfl)) (by unfold Func.isWrapper; rw [if_neg (of_decide_eq_false (by kernel_rfl))]; exact ⟨rfl, rfl⟩)
    (fun os started H enc _ => ShaTwins_lifted os started H enc)

theorem ShaTwins_holds : Rows.ShaTwinsCardSaid :=
  Claim7.holds_tied_plain_at .later [] [.data] true _ false
    ShaTwins_over (fun _ h => by cases h) (by kernel_rfl) (fun _ h => by cases h) shaTwins_row_tie rfl ⟨rfl, rfl⟩ (by kernel_rfl) rfl
    (fun f fn hf hfn => by
      obtain rfl : f = 6 := Option.some.inj ((show Tryd.prog.funcNamed "clapper/clapperlaw03.ShaTwins" = some 6 by kernel_rfl).symm.trans hf) |>.symm
      obtain rfl : fn = Tryd.f6 := (Option.some.inj (Tryd.func6.symm.trans hfn)).symm
      exact ⟨by kernel_rfl, fun j t ht => by
        rw [Tryd.params6] at ht
        have hm : t ∈ [22, 22, 22] := by simpa using Array.mem_of_getElem? ht
        have hall : ([22, 22, 22].all fun u => !Tryd.prog.wantsStandIn u) = true := by kernel_rfl
        exact (show Tryd.prog.wantsStandIn t = false by simpa using List.all_eq_true.1 hall t hm)⟩)
    (by kernel_rfl)
end

#print axioms ShaTwins_holds
end Go.Proofs.YtihjmfonalohaaaDoor
