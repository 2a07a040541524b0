/-
  ShaParts: in whatever two parts a text is written, its sum is the same; what is handed in stays. The package's table of round words is as its initialiser laid it (the tied row's condition).
-/
import Derived.Test.YtihjmfonalohaaaDoorHLaw
import Derived.Test.YtihjmfonalohaaaDoorTie
import Derived.Test.YtihjmfonalohaaaDoorCards
import Derived.SevenTiedAt
import Derived.WalkKit
import Derived.WalkSpells
import Derived.WalkLawsBesides
import Derived.Deep.LoopGhost
import Derived.Deep.Cut
import Derived.Deep.CutRange
import Derived.Deep.RegionHeld3
import Derived.BigQuiet
namespace Go.Proofs.YtihjmfonalohaaaDoor
open Go.RowKit

set_option maxRecDepth 100000 in
set_option maxHeartbeats 4000000 in
theorem parts_big (A : Option Addr) (n c : Nat) (at' : Int) (hb : 5000 < n ∨ at' < 0 ∨ (n : Int) < at') (w : World) (hK : KT w) :
    Calls Tryd.prog 5 #[.slice A n c, .int .i64 at'] w fun e w' => e = .returned (.bool true) ∧ Below w.heap.size w w' := by
  have h1 : 5000 < n ∨ (n ≤ 5000 ∧ at' < 0) ∨ (n ≤ 5000 ∧ 0 ≤ at' ∧ (n : Int) < at') := by omega
  clear hb
  rcases h1 with h | ⟨h, h2⟩ | ⟨h, h2, h3⟩
  all_goals
    go_enter Tryd.func5, Tryd.ntmps5
    go_wp2_with fail
    refine (up_calls w hK).mono ?_
    rintro e w1 ⟨rfl, hb1⟩
    go_wp2_with fail
    refine (new_calls w1).mono ?_
    rintro e w2 ⟨rfl, _, hb2⟩
    have hB2 := hb1.trans (hb2.mono hb1.size)
    clear hb1 hb2 hK
    go_wp2
    go_ret
    exact ⟨rfl, hB2⟩

theorem keepS {W W' : World} {gH gD n : Nat} {y : Nat → Nat} {L : List Value} (hb : Below W.heap.size W W') (h : KT W ∧ HashIs W gH y n ∧ W.rangeAt gD 0 L) : KT W' ∧ HashIs W' gH y n ∧ W'.rangeAt gD 0 L :=
  ⟨h.1.call hb, h.2.1.call hb, fun j v hv => by
    have h3 := h.2.2 j v hv
    have hlt := World.block_lt_of_cell? W _ h3
    exact (hb.cell (p := ⟨gD, 0 + j, none⟩) hlt).trans h3⟩
set_option maxRecDepth 100000 in
set_option maxHeartbeats 4000000 in
theorem parts_small (A : Option Addr) (n c m : Nat) (y : Nat → Nat) (hy : ∀ j, y j < 256) (hn : n ≤ 5000) (hm : m ≤ n) (w : World) (hK : KT w) (hS : Src w A n y w.heap.size) :
    Calls Tryd.prog 5 #[.slice A n c, .int .i64 (m : Int)] w fun e w' => e = .returned (.bool true) ∧ Below w.heap.size w w' := by
  obtain ⟨i8, hi8, hz0, hz1, hz2⟩ := info_parts infoB3
  have HI := veil (And.intro hi8 (And.intro hz0 (And.intro hz1 hz2)))
  have HY := veil hy
  have hni : (n : Int) ≤ 5000 := by omega
  have hmi : (m : Int) ≤ (n : Int) := by omega
  have HS := veil hS
  have HK := veil hK
  clear hi8 hz0 hz1 hz2 hy hS
  have hg0 := hK.lt
  go_enter Tryd.func5, Tryd.ntmps5
  go_wp2_with fail
  refine (up_calls w hK).mono ?_
  rintro e w1 ⟨rfl, hb1⟩
  clear hK
  go_wp2_with fail
  refine (new_calls w1).mono ?_
  rintro e w2 ⟨rfl, hH, hb2⟩
  have hB2 := hb1.trans (hb2.mono hb1.size)
  have hle := hb1.size
  have hH2 := hH (fun _ => 0)
  have hgH := hH2.lt
  generalize hgw : w1.heap.size = gH at *
  clear hb1 hb2 hH hgw
  have hO := Own.made (e := 5) (f := fun _ => .int .u8 0) w2 (cs := #[]) (base := gH + 1) (by omega) (by decide) (fun i hi => by simp at hi)
  have hB2a := hB2.alloc (by omega) (.cells #[] 5)
  have hH2a := hH2.alloc (.cells #[] 5)
  have HA := veil (And.intro hO (from_now HS.out hB2a))
  clear hO hH2
  go_upto_region 6 with ((with_reducible refine at_slot 36 ?_); refine wpList_append_from _ rfl _ _ 22 rfl (gH + 1) 5 i8 (.int .u8 0) 1 Tryd.underlying22 HI.out.1 HI.out.2.1 HI.out.2.2.1 HI.out.2.2.2 rfl (.slice (some ⟨w2.heap.size, 0, none⟩) 0 0) 0 _ rfl HA.out.1 A n c rfl _ HA.out.2 (fun _ => rfl) (by unfold maxLen; omega) (by omega) (by simp; omega) ?_; intro v3 w3 hO3 hg3 hat3)
  have hO3 : Own w3 (gH + 1) 5 v3 n (fun j => .int .u8 (y j : Nat)) := by
    have := hO3
    rw [Nat.zero_add] at this
    exact this.congr fun j hj => by rw [if_neg (by omega), Nat.sub_zero]
  have hH3 := hH2a.grown hg3 (by simp [Value.ownBlock]; omega)
  have hB3 := hB2a.grown hg3 (by simp; omega) (fun k e => by simp [Value.ownBlock] at e; omega)
  clear hg3 hat3 HA hB2 hB2a hH2a
  obtain ⟨A3, c3, rfl, hc3, hS3⟩ := src_own (g := gH) hO3 (fun b e => by have := (hO3.lt e).1; omega)
  have q1 := fun W => cut_to A3 n c3 m (by omega) W
  have q2 := fun W => cut_from A3 n c3 m hm W
  have HSH := veil (hS3.head hm hc3)
  go_wp2_with fail
  refine (write_calls gH (fun _ => 0) 0 (cutA A3 0 c3) m c3 y HY.out (by omega) (by omega) (by omega) w3 (kt_now HK.out hB3) hH3 HSH.out).mono ?_
  rintro e w4 ⟨rfl, hH4, hb4⟩
  rw [cat_none, Nat.zero_add] at hH4
  have hB4 := but_below hB3 hb4 hle
  have hO4 := hO3.but hb4 (by omega)
  have hS4 := veil ((hS3.but hb4).cut hm hc3)
  clear hO3 hS3 hH3 hB3 hb4 HSH
  go_wp2_with fail
  refine (write_calls gH y m (cutA A3 m c3) (n - m) (c3 - m) (fun j => y (m + j)) (fun j => HY.out _) (by omega) (by omega) (by omega) w4 (kt_now HK.out hB4) hH4 hS4.out).mono ?_
  rintro e w5 ⟨rfl, hH5, hb5⟩
  have hB5 := but_below hB4 hb5 hle
  have hO5 := hO4.but hb5 (by omega)
  have hH5 : HashIs w5 gH y n := by
    have h := hH5
    rw [show m + (n - m) = n by omega] at h
    exact h.congr fun i hi => by
      unfold cat
      by_cases hc : i < m
      · rw [if_pos hc]
      · rw [if_neg hc]; show y (m + (i - m)) = y i; congr 1; omega
  clear hO4 hH4 hB4 hb5 hS4 q1 q2
  obtain ⟨A5, c5, e5, hc5, hS5⟩ := src_own (g := w5.heap.size) hO5 (fun b e => by have := (hO5.lt e).2; omega)
  obtain ⟨rfl, _, rfl⟩ : A3 = A5 ∧ n = n ∧ c3 = c5 := by
    injection e5 with h1 h2 h3
    exact ⟨h1, rfl, h3⟩
  clear e5
  go_wp2_with fail
  refine (sum_calls A3 n c3 y HY.out hc3 (by omega) w5 (kt_now HK.out hB5) hS5).mono ?_
  rintro e w6 ⟨rfl, hb6⟩
  have hB6 := hB5.trans (hb6.mono hB5.size)
  have hO6 := hO5.call hb6
  have hH6 := hH5.call hb6
  have hz6 := hH6.lt
  clear hB5 hO5 hH5 hb6 hS5
  obtain ⟨D, hD⟩ : ∃ D, D = dgst y n := ⟨_, rfl⟩
  have HZ := veil (And.intro (dgst_size y n) (And.intro (show (dgst y n).all (·.oneCell') = true from arrOf_one fun _ _ => rfl) (show (Tryd.prog.info? 25).map (·.size) = some (dgst y n).size by rw [dgst_size]; exact infoD)))
  have kq := fun W => eql_dgst y n W
  rw [← hD] at HZ kq ⊢
  have HD := veil hD
  clear hD
  go_upto_region 9 with ((with_reducible refine at_none ?_); refine wpList_store_row rfl 25 _ _ rfl w6.heap.size D rfl rfl 25 _ (heap_alloc_last w6 _) HZ.out.2.2 (by rw [HZ.out.1]; rfl) HZ.out.2.1 ?_; rw [World.setRow_alloc_new])
  have hR7 : (w6.alloc (.cells D 25)).heap[w6.heap.size]? = some (.cells D 25 (0, 0)) := heap_alloc_last w6 _
  have hB7 := hB6.alloc hB6.size (.cells D 25)
  have hO7 := hO6.alloc (.cells D 25)
  have hH7 := hH6.alloc (.cells D 25)
  have hlt7 : w6.heap.size < (w6.alloc (.cells D 25)).heap.size := by simp
  have hgO : ∀ b, (Value.slice A3 n c3).ownBlock = some b → b ≠ w6.heap.size := fun b e => by have := (hO6.lt e).2; omega
  generalize w6.alloc (.cells D 25) = w7 at *
  generalize hgd : w6.heap.size = gD at *
  clear hB6 hO6 hH6 hgd
  obtain ⟨A5, c5, e5, _, hS7⟩ := src_own (g := w7.heap.size) hO7 (fun b e => by have := (hO7.lt e).2; omega)
  obtain ⟨rfl, rfl⟩ : A3 = A5 ∧ c3 = c5 := by
    injection e5 with h1 h2 h3
    exact ⟨h1, h3⟩
  have k1 := str_src (c := c3) hS7
  have k2 := str_src (c := c) (src_now (g := w.heap.size) HS.out hB7 (Nat.le_refl _))
  have HO7 := veil hO7
  have HR7 := veil hR7
  have HGO := veil hgO
  clear e5 hS7 hO7 hR7 hgO
  go_upto_region 12 with (fail)
  clear k1 k2
  have hOO : n = 0 ∨ ∃ (b : Nat) (z : Nat → Int), A3 = some ⟨b, 0, none⟩ ∧ gH + 1 ≤ b ∧ b ≠ gD ∧ Pre w7 b 5 n (fun j => .int .u8 (z j)) := by
    by_cases h : n = 0
    · exact .inl h
    · obtain ⟨b, cap, e, _, hb, hp⟩ := HO7.out.pre (by omega)
      injection e with e1 _ _
      subst e1
      exact .inr ⟨b, fun j => ((y j : Nat) : Int), rfl, hb, HGO.out b rfl, hp⟩
  have hR7 := HR7.out
  have HL := veil (And.intro hle hz6)
  clear HO7 HGO HR7 hlt7 hO3 hc5
  go_loopw [9] (fun v wr => ∃ i : Nat, i ≤ n ∧ v = .int .i64 (i : Int) ∧ Below w.heap.size w wr ∧ HashIs wr gH y n ∧ Hid (wr.heap[gD]? = some (.cells D 25 (0, 0))) ∧
      (n = 0 ∨ ∃ (b : Nat) (z : Nat → Int), A3 = some ⟨b, 0, none⟩ ∧ gH + 1 ≤ b ∧ b ≠ gD ∧ Pre wr b 5 n (fun j => .int .u8 (z j))))
    (fun v _ => n - (intOf v).toNat)
  case atStart => exact ⟨0, by omega, rfl, hB7, hH7, hR7, hOO⟩
  case round =>
    obtain ⟨i, hi, rfl, hB, hH, hR, hO⟩ := hrel
    by_cases hlt : i < n
    · obtain ⟨b, z, rfl, hb, hbD, hp⟩ := hO.resolve_left (by omega)
      have ci := hp.cell hlt
      have fi := hp.frozen i
      obtain ⟨x, hx⟩ : ∃ x, x = z i := ⟨_, rfl⟩
      rw [← hx] at ci
      clear hx hO
      have jd : (i : Int) < (n : Int) := by omega
      go_wp2
      go_roundw
      case rel =>
        refine ⟨i + 1, by omega, by go_num, below_set hB (by omega) _, hH.of_block (Below.heap_setCell _ _ _ _ (by show gH ≠ b; omega)), (Below.heap_setCell _ _ _ _ (by show gD ≠ b; omega)).trans hR.out, .inr ⟨b, fun j => if j = i then (x + 1) % 256 else z j, rfl, hb, hbD, (hp.set i _).congr fun j hj => ?_⟩⟩
        by_cases h : j = i
        · simp only [if_pos h]
        · simp only [if_neg h]
      case measure => simp [intOf]; omega
    · have hd1 : decide (i < n) = false := by simp; omega
      have hd2 : decide ((i : Int) < (n : Int)) = false := by simp; omega
      have hu := Tryd.underlying25
      have hii : (Tryd.prog.info? 25).map (·.size) = some D.toList.length := by rw [Array.length_toList]; exact HZ.out.2.2
      have hl32 : D.toList.length = 32 := by rw [Array.length_toList]; exact HZ.out.1
      have hone : ∀ v ∈ D.toList, v.oneCell' = true := fun v hv => (Array.all_eq_true_iff_forall_mem.1 HZ.out.2.1) v (by simpa using hv)
      have hT : D.toList.toArray = D := by simp
      have hrg : wr.rangeAt gD 0 D.toList := fun j v hv => by
        rw [Nat.zero_add, cell_of_row wr gD j D 25 (0, 0) hR.out]
        simpa using hv
      have hkt := kt_now HK.out hB
      have HSUM := veil (fun W (h : HashIs W gH y n) (k : KT W) => hsum_calls gH n y (by omega) W k h)
      obtain ⟨L, hL⟩ : ∃ L, L = D.toList := ⟨_, rfl⟩
      rw [← hL] at hii hl32 hone hT hrg
      have HDD := veil HD
      clear hL hR hO hlt hi hOO hH5 hR7 HD hB7 hH7
      rw [← HDD.out.out] at HSUM
      go_wp2_with fail
      go_region_held3 (fun w' => KT w' ∧ HashIs w' gH y n ∧ w'.rangeAt gD 0 L)
        (first
          | with_reducible assumption
          | exact ⟨hkt, hH, hrg⟩
          | exact ⟨hkt.drew, hH.drew, hrg⟩
          | exact keepS hb' (by assumption))
        (first
          | (go_at_call 11; refine (HSUM.out _ (by first | exact hH | exact hH.drew | exact (by assumption : _ ∧ _ ∧ _).2.1) (by first | exact hkt | exact hkt.drew | exact (by assumption : _ ∧ _ ∧ _).1)).mono ?_; rintro e w' ⟨rfl, hb'⟩))
      all_goals
        go_wp2
        go_ret
        exact ⟨rfl, hB.drew.trans (hb'.mono hB.size)⟩

/-! ### the statement -/
section
open Go.ChangeShapes Go.WideShapes Go.ChangeAt
theorem parts_walk (A : Option Addr) (n c : Nat) (at' : Int) (y : Nat → Nat) (hy : ∀ j, y j < 256) (w : World) (hK : KT w) (hS : Src w A n y w.heap.size) :
    Calls Tryd.prog 5 #[.slice A n c, .int .i64 at'] w fun e w' => e = .returned (.bool true) ∧ Below w.heap.size w w' := by
  by_cases h : 5000 < n ∨ at' < 0 ∨ (n : Int) < at'
  · exact parts_big A n c at' h w hK
  · obtain ⟨m, rfl⟩ : ∃ m : Nat, at' = (m : Int) := ⟨at'.toNat, by omega⟩
    exact parts_small A n c m y hy (by omega) (by omega) w hK hS
set_option maxRecDepth 100000 in
theorem ShaParts_lifted (os : Os) (started : os.Started) (H : Type) (enc : TypeId × Value → H) :
    ReturnsInHanded {} Tryd.checked os 5 .any (fun w args => (Rows.shaPartsSpec.pre enc Tryd.prog Tryd.f5 [] false w args ∧ laidMetH Tryd.prog Rows.shaPartsRow.laid w) ∧ sizedMet enc Tryd.prog Tryd.f5 (OpenSpec.ofChange Rows.shaPartsSpec) false w args)
      (Rows.shaPartsSpec.post enc Tryd.prog Tryd.f5 false true false false) := by
  refine returnsInHanded_of_change_and (C := Tryd.checked) (X := fun w _ => laidMetH Tryd.prog Rows.shaPartsRow.laid w) (fun _ _ _ hh h => h.of_heap hh) own started (by kernel_rfl) Tryd.func5
    (ChangeSpec.witness_shaped (enc := enc) (C := Tryd.checked) (os := os) (X := fun w _ => laidMetH Tryd.prog Rows.shaPartsRow.laid w) false (World.doorLaid Tryd.prog 14 os) #[.slice none 0 0, .int .i64 0] 8 rfl (World.shaped_of_RefB (by kernel_rfl) (by kernel_rfl)) (by kernel_rfl) (by kernel_rfl) (by kernel_rfl) (door_met os _)) ?_
  intro W base args ds gs before hval0 hW _ _ hL _
  have hval : ∀ (j : Nat) t v, Tryd.f5.params[j]? = some t → args[j]? = some v → Value.okWide Tryd.prog W .any base t v := hval0
  have hW' := hW
  obtain ⟨p, q, hA0, hV, rfl, _, _⟩ := hW
  have hA : DataW.TrodAll enc Tryd.prog W 0 (fun _ => true) true Tryd.f5.params.toList args.toList ds p := hA0
  rw [Tryd.params5] at hA hval
  obtain ⟨v0, v1, d0, d1, p0, p1, rfl, rfl, rfl, h0, h1⟩ := trodAll_two hA
  obtain ⟨rfl, rfl⟩ := trodVars_none hV
  obtain ⟨a0, len, cap, rfl⟩ := okWide_slice Tryd.underlying22 (hval 0 22 v0 rfl rfl)
  obtain ⟨z, rfl, rfl, rfl, w1⟩ := open_int Tryd.underlying3 (hval 1 3 v1 rfl rfl) h1
  have h0k := h0
  obtain ⟨fuel, hf⟩ := h0
  clear hA0 hval0
  simp only [List.append_nil] at hW'
  have hlt : ∀ x ∈ p0, x.block < W.heap.size := fun x hx => by simpa using hW'.lt x hx
  obtain ⟨y, hy, hs, _⟩ := src_of (by simpa [Value.cells] using hf) hlt
  refine (parts_walk a0 len cap z y hy W (kt_of_laid hL) hs).mono fun e W' ⟨he, hb⟩ => ?_
  subst he
  exact ⟨_, rfl, _, _, _, [], p0, [], hW', trodAll_mk1 (shut_bool Tryd.underlying4 true), by
    have h2 := trodAll_mk2 (Below.trod laidOut (by kernel_rfl) (of_decide_eq_true (by kernel_rfl)) h0k hb hlt) (shut_int Tryd.underlying3 w1)
    rw [List.append_nil] at h2
    exact h2, rfl, hb.frame _, fun h => by cases h⟩

theorem ShaParts_over : Rows.shaPartsRow.holds Tryd.pinned (OpenSpec.ofChange Rows.shaPartsSpec) :=
  OpenClaim.holds_of_wide 5 Tryd.f5 rfl rfl rfl rfl rfl rfl rfl ⟨rfl, rfl, rfl, rfl, rfl⟩ rfl rfl rfl rfl rfl (by kernel_rfl) Tryd.func5 (by kernel_rfl)
    (of_decide_eq_true (by kernel_rfl)) (by unfold Func.isWrapper; rw [if_neg (of_decide_eq_false (by kernel_rfl))]; exact ⟨rfl, rfl⟩)
    (fun os started H enc _ => ShaParts_lifted os started H enc)

theorem ShaParts_holds : Rows.ShaPartsCardSaid :=
  Claim7.holds_tied_plain_at .later [] [.data] true _ false
    ShaParts_over (fun _ h => by cases h) (by kernel_rfl) (fun _ h => by cases h) shaParts_row_tie rfl ⟨rfl, rfl⟩ (by kernel_rfl) rfl
    (fun f fn hf hfn => by
      obtain rfl : f = 5 := Option.some.inj ((show Tryd.prog.funcNamed "clapper/clapperlaw03.ShaParts" = some 5 by kernel_rfl).symm.trans hf) |>.symm
      obtain rfl : fn = Tryd.f5 := (Option.some.inj (Tryd.func5.symm.trans hfn)).symm
      exact ⟨by kernel_rfl, fun j t ht => by
        rw [Tryd.params5] at ht
        have hm : t ∈ [22, 3] := by simpa using Array.mem_of_getElem? ht
        have hall : ([22, 3].all fun u => !Tryd.prog.wantsStandIn u) = true := by kernel_rfl
        exact (show Tryd.prog.wantsStandIn t = false by simpa using List.all_eq_true.1 hall t hm)⟩)
    (by kernel_rfl)
end

#print axioms ShaParts_holds
end Go.Proofs.YtihjmfonalohaaaDoor
