/-
  ShaWrites: the sum of any parts that were written, told ahead of each, and behind all, is the document's. The package's table of round words is as its initialiser laid it (the tied row's condition).
-/
import Derived.Test.YtihjmfonalohaaaDoorHLaw
import Derived.Test.YtihjmfonalohaaaDoorSSum
import Derived.Test.YtihjmfonalohaaaDoorTie
import Derived.Test.YtihjmfonalohaaaDoorCards
import Derived.SevenTiedAt
import Derived.WalkKit
import Derived.WalkSpells
import Derived.WalkLawsBesides
import Derived.Deep.LoopGhost
import Derived.Deep.Cut
import Derived.Deep.CutRange
import Derived.Deep.Matrix
namespace Go.Proofs.YtihjmfonalohaaaDoor
open Go.RowKit

/-- The parts that came in: part r is C r's first L r bytes, from A r on. -/
structure Parts3 (W : World) (AL : Option Addr) (nl : Nat) (A : Nat → Option Addr) (L C : Nat → Nat) (Y : Nat → Nat → Nat) : Prop where
  row : nl = 0 ∨ ∃ b o, AL = some ⟨b, o, none⟩ ∧ b < W.heap.size ∧ ∀ r, r < nl → W.cell? ⟨b, o + r, none⟩ = some (.slice (A r) (L r) (C r))
  src : ∀ r, r < nl → Src W (A r) (L r) (Y r) W.heap.size
  cap : ∀ r, r < nl → L r ≤ C r
  lt : ∀ r j, Y r j < 256
/-- All that the first i parts hold. -/
def lenN (L : Nat → Nat) : Nat → Nat
  | 0 => 0
  | i + 1 => lenN L i + L i
def textN (L : Nat → Nat) (Y : Nat → Nat → Nat) : Nat → Nat → Nat
  | 0 => fun _ => 0
  | i + 1 => cat (textN L Y i) (lenN L i) (Y i)
theorem lenN_le {L : Nat → Nat} : ∀ i, (∀ r, r < i → L r ≤ 1000) → lenN L i ≤ 1000 * i
  | 0, _ => by simp [lenN]
  | i + 1, h => by
    have h1 := lenN_le i fun r hr => h r (by omega)
    have h2 := h i (by omega)
    show lenN L i + L i ≤ _
    omega
theorem textN_lt {L : Nat → Nat} {Y : Nat → Nat → Nat} (h : ∀ r j, Y r j < 256) : ∀ i j, textN L Y i j < 256
  | 0, _ => by show (0 : Nat) < 256; decide
  | i + 1, j => cat_lt (textN_lt h i) (h i) j

theorem len_keep (g L : Nat) (b : Nat → Nat) (w : World) (hH : HashIs w g b L) : Calls Tryd.prog 12 #[.pointer (some ⟨g, 0, none⟩)] w fun e w' => e = .returned (.int .i64 (L : Int)) ∧ w = w' :=
  (len_calls g L b w hH).mono fun _ _ h => ⟨h.1, h.2.symm⟩
set_option maxRecDepth 100000 in
set_option maxHeartbeats 4000000 in
theorem writes_big (AL : Option Addr) (nl cl : Nat) (hb : 30 < nl) (w : World) (hK : KT w) :
    Calls Tryd.prog 4 #[.slice AL nl cl] w fun e w' => e = .returned (.bool true) ∧ Below w.heap.size w w' := by
  have hi : (30 : Int) < (nl : Int) := by omega
  go_enter Tryd.func4, Tryd.ntmps4
  go_wp2_with fail
  refine (up_calls w hK).mono ?_
  rintro e w1 ⟨rfl, hb1⟩
  go_wp2_with fail
  refine (new_calls w1).mono ?_
  rintro e w2 ⟨rfl, _, hb2⟩
  have hB2 := hb1.trans (hb2.mono hb1.size)
  clear hb1 hb2 hK
  go_wp2
  go_ret
  exact ⟨rfl, hB2⟩

set_option maxRecDepth 100000 in
set_option maxHeartbeats 8000000 in
theorem writes_small (AL : Option Addr) (nl cl : Nat) (A : Nat → Option Addr) (L C : Nat → Nat) (Y : Nat → Nat → Nat) (hn : nl ≤ 30) (w : World) (hK : KT w) (hP : Parts3 w AL nl A L C Y) :
    Calls Tryd.prog 4 #[.slice AL nl cl] w fun e w' => e = .returned (.bool true) ∧ Below w.heap.size w w' := by
  obtain ⟨i8, hi8, hz0, hz1, hz2⟩ := info_parts infoB3
  have HI := veil (And.intro hi8 (And.intro hz0 (And.intro hz1 hz2)))
  have hi : (nl : Int) ≤ 30 := by omega
  have HP := veil hP
  have HK := veil hK
  have hg0 := hK.lt
  clear hi8 hz0 hz1 hz2 hP
  go_enter Tryd.func4, Tryd.ntmps4
  go_wp2_with fail
  refine (up_calls w hK).mono ?_
  rintro e w1 ⟨rfl, hb1⟩
  clear hK
  go_wp2_with fail
  refine (new_calls w1).mono ?_
  rintro e w2 ⟨rfl, hH, hb2⟩
  have hB2 := hb1.trans (hb2.mono hb1.size)
  have hle := hb1.size
  have hH2 := hH (textN L Y 0)
  generalize hgw : w1.heap.size = gH at *
  clear hb1 hb2 hH hgw
  have hO2 : Own w2 (gH + 1) 5 (.slice none 0 0) 0 (fun j => .int .u8 (textN L Y 0 j : Nat)) := Own.nil _ _ _ _
  go_wp2
  go_loopw [5, 6] (fun v5 v6 wr => ∃ i : Nat, i ≤ nl ∧ (∀ r, r < i → L r ≤ 1000) ∧ v6 = .int .i64 (i : Int) ∧ Own wr (gH + 1) 5 v5 (lenN L i) (fun j => .int .u8 (textN L Y i j : Nat)) ∧ HashIs wr gH (textN L Y i) (lenN L i) ∧ Below w.heap.size w wr)
    (fun _ v6 _ => nl - (intOf v6).toNat)
  case atStart => exact ⟨0, by omega, fun r hr => by omega, rfl, hO2, hH2, hB2⟩
  case round =>
    obtain ⟨i, hi, hL, rfl, hO, hH, hB⟩ := hrel
    have hTl := lenN_le i hL
    obtain ⟨A5, c5, rfl, hc5, hS5⟩ := src_own (g := wr.heap.size) hO (fun b e => by have := (hO.lt e).2; omega)
    obtain ⟨T, hT⟩ : ∃ T, T = lenN L i := ⟨_, rfl⟩
    obtain ⟨tx, htx⟩ : ∃ tx, tx = textN L Y i := ⟨_, rfl⟩
    have htl : ∀ j, tx j < 256 := by rw [htx]; exact textN_lt HP.out.lt i
    rw [← hT] at hTl hc5 hS5 hO hH ⊢
    rw [← htx] at hS5 hO hH
    have HT := veil (And.intro hT (And.intro htx (And.intro hL htl)))
    have kq1 := fun W => eql_dgst tx T W
    have kq2 := fun W => neq_dgst tx T W
    obtain ⟨D, hD⟩ : ∃ D, D = dgst tx T := ⟨_, rfl⟩
    rw [← hD] at kq1 kq2
    have HD := veil hD
    clear hD hT htx hL htl
    by_cases hlt : i < nl
    · have hd1 : decide (i < nl) = true := by simp; omega
      have hd2 : decide ((i : Int) < (nl : Int)) = true := by simp; omega
      have hj2 : (i : Int) < (nl : Int) := by omega
      obtain ⟨bl, ol, hAL, hbl, hcl⟩ := HP.out.row.resolve_left (by omega)
      have cw := hcl i hlt
      have HCW := veil (And.intro hbl cw)
      have cr : wr.cell? ⟨bl, ol + i, none⟩ = some (.slice (A i) (L i) (C i)) := (hB.cell (p := ⟨bl, ol + i, none⟩) hbl).trans cw
      clear hcl hbl cw
      subst hAL
      by_cases hbig : 1000 < L i
      · have hbi : (1000 : Int) < (L i : Int) := by omega
        go_wp2
        go_ret
        exact ⟨rfl, hB⟩
      · have hbi : ¬ ((1000 : Int) < (L i : Int)) := by omega
        have HO := veil hO
        have HHH := veil (And.intro hH hB)
        go_wp2_with fail
        refine (hsum_calls gH T tx (by omega) wr (kt_now HK.out hB) hH).mono ?_
        rintro e w3 ⟨rfl, hb3⟩
        rw [← HD.out]
        have hB3 := hB.trans (hb3.mono hB.size)
        have hO3 := hO.call hb3
        have hH3 := hH.call hb3
        clear hB hO hH hb3 hS5
        go_wp2_with fail
        refine (rsum_calls A5 T c5 tx HT.out.2.2.2 (by omega) w3 (own_src hO3)).mono ?_
        rintro e w4 ⟨rfl, hb4⟩
        rw [← HD.out]
        have hB4 := hB3.trans (hb4.mono hB3.size)
        have hO4 := hO3.call hb4
        have hH4 := veil (hH3.call hb4)
        have cr4 : w4.cell? ⟨bl, ol + i, none⟩ = some (.slice (A i) (L i) (C i)) := (hB4.cell (p := ⟨bl, ol + i, none⟩) HCW.out.1).trans HCW.out.2
        have HL := veil (fun W (h : HashIs W gH tx T) => len_keep gH T tx W h)
        clear hB3 hO3 hH3 hb4 cr HO HHH
        go_upto_region 13 with (go_at_call 12; ((with_reducible refine (HL.out _ hH4.out).mono ?_); rintro e w' ⟨rfl, rfl⟩))
        go_wp2_with fail
        refine (write_calls gH tx T (A i) (L i) (C i) (Y i) (HP.out.lt i) (HP.out.cap i hlt) (by omega) (by omega) w4 (kt_now HK.out hB4) hH4.out (src_now (HP.out.src i hlt) hB4 hle)).mono ?_
        rintro e w5 ⟨rfl, hH5, hb5⟩
        have hB5 := but_below hB4 hb5 hle
        have hO5 := hO4.but hb5 (by omega)
        have cr5 : w5.cell? ⟨bl, ol + i, none⟩ = some (.slice (A i) (L i) (C i)) := (hB5.cell (p := ⟨bl, ol + i, none⟩) HCW.out.1).trans HCW.out.2
        have hz5 := hH5.lt
        have HO5 := veil hO5
        have HF5 := veil (from_now (HP.out.src i hlt) hB5)
        clear hB4 hO4 hH4 hb5 cr4 hO5 HL
        go_wp2_with ((with_reducible refine at_slot 57 ?_); refine wpList_append_from _ rfl _ _ 22 rfl (gH + 1) 5 i8 (.int .u8 0) 1 Tryd.underlying22 HI.out.1 HI.out.2.1 HI.out.2.2.1 HI.out.2.2.2 rfl (.slice A5 T c5) T _ rfl HO5.out (A i) (L i) (C i) rfl _ HF5.out (fun _ => rfl) (by unfold maxLen; omega) (by omega) (by omega) ?_; intro v6 w6 hO6 hg6 hat6; clear hat6)
        have hH6 := hH5.grown hg6 (fun e => by have := (HO5.out.lt e.symm).1; omega)
        have hB6 := hB5.grown hg6 hB5.size (fun k e => by have := (HO5.out.lt e).1; omega)
        have hO6' := own_cat hO6
        clear hO6 hg6 hH5 hB5 cr5 HO5 HF5
        go_roundw
        case rel =>
          obtain ⟨hT, htx, hL, _⟩ := HT.out
          refine ⟨i + 1, by omega, fun r hr => ?_, by go_num, ?_, ?_, hB6⟩
          · by_cases h : r < i
            · exact hL r h
            · rw [show r = i by omega]; omega
          · show Own w6 (gH + 1) _ v6 (lenN L i + L i) (fun j => .int .u8 (cat (textN L Y i) (lenN L i) (Y i) j : Nat))
            rw [← hT, ← htx]; exact hO6'
          · show HashIs w6 gH (cat (textN L Y i) (lenN L i) (Y i)) (lenN L i + L i)
            rw [← hT, ← htx]; exact hH6
        case measure => simp [intOf]; omega
    · have hd1 : decide (i < nl) = false := by simp; omega
      have hd2 : decide ((i : Int) < (nl : Int)) = false := by simp; omega
      clear hlt
      go_wp2_with fail
      refine (hsum_calls gH T tx (by omega) wr (kt_now HK.out hB) hH).mono ?_
      rintro e w3 ⟨rfl, hb3⟩
      rw [← HD.out]
      have hB3 := hB.trans (hb3.mono hB.size)
      have hO3 := hO.call hb3
      have hH3 := hH.call hb3
      clear hB hO hH hb3 hS5
      go_wp2_with fail
      refine (rsum_calls A5 T c5 tx HT.out.2.2.2 (by omega) w3 (own_src hO3)).mono ?_
      rintro e w4 ⟨rfl, hb4⟩
      rw [← HD.out]
      have hB4 := hB3.trans (hb4.mono hB3.size)
      have hH4 := veil (hH3.call hb4)
      have HL := veil (fun W (h : HashIs W gH tx T) => len_keep gH T tx W h)
      clear hB3 hO3 hH3 hb4
      go_wp2_with (go_at_call 12; ((with_reducible refine (HL.out _ hH4.out).mono ?_); rintro e w' ⟨rfl, rfl⟩))
      go_ret
      exact ⟨rfl, hB4⟩

/-! ### the statement -/
section
open Go.ChangeShapes Go.WideShapes Go.ChangeAt
theorem writes_walk (AL : Option Addr) (nl cl : Nat) (A : Nat → Option Addr) (L C : Nat → Nat) (Y : Nat → Nat → Nat) (w : World) (hK : KT w) (hP : Parts3 w AL nl A L C Y) :
    Calls Tryd.prog 4 #[.slice AL nl cl] w fun e w' => e = .returned (.bool true) ∧ Below w.heap.size w w' := by
  by_cases h : 30 < nl
  · exact writes_big AL nl cl h w hK
  · exact writes_small AL nl cl A L C Y (by omega) w hK hP
theorem cellsSlice : Tryd.prog.cellsOf 22 = 1 := by kernel_rfl
theorem parts_of {H : Type} {enc : TypeId × Value → H} {W : World} {AL : Option Addr} {len cap fuel : Nat} {d : DataW H} {p : List MemPlace}
    (hf : DataW.trod enc Tryd.prog W 0 (fun _ => true) true fuel 28 [.slice AL len cap] = some (d, p)) : ∃ A L C Y, Parts3 W AL len A L C Y := by
  rcases Go.Deep.open_int_rows Tryd.underlying28 Tryd.underlying22 Tryd.underlying5 cellsSlice cellsByte hf with ⟨hcs, _⟩ | ⟨a, len', cap', A, L, C, Z, hcs, _, hlc, _, _, hr⟩
  · simp only [List.cons.injEq, Value.slice.injEq, and_true] at hcs
    obtain ⟨_, rfl, _⟩ := hcs
    exact ⟨fun _ => none, fun _ => 0, fun _ => 0, fun _ _ => 0, .inl rfl, fun r h => by omega, fun r h => by omega, fun _ _ => by decide⟩
  · simp only [List.cons.injEq, Value.slice.injEq, and_true] at hcs
    obtain ⟨rfl, rfl, rfl⟩ := hcs
    have hb : ∀ r, r < cap → ∀ j, 0 ≤ (Z r).getD j 0 ∧ (Z r).getD j 0 < 256 := fun r h j => by
      obtain ⟨_, _, _, _, hwz, _⟩ := hr r h
      by_cases hj : j < (Z r).length
      · have h := hwz ((Z r).getD j 0) (by rw [List.getD_eq_getElem?_getD, List.getElem?_eq_getElem hj]; exact List.getElem_mem hj)
        simp only [Lit.wf, Bool.and_eq_true, decide_eq_true_eq] at h
        have e1 : IntKind.u8.min = 0 := rfl
        have e2 : IntKind.u8.max = 255 := rfl
        omega
      · rw [List.getD_eq_getElem?_getD, List.getElem?_eq_none (by omega)]; exact ⟨by decide, by decide⟩
    refine ⟨A, L, C, fun r j => if r < cap then ((Z r).getD j 0).toNat else 0, ?_, fun r h => ?_, fun r h => (hr r (by omega)).2.1, fun r j => ?_⟩
    · by_cases h0 : len = 0
      · exact .inl h0
      · obtain ⟨b, off, spot⟩ := a
        have h00 := (hr 0 (by omega)).1
        have hspot : spot = none := by simpa [Addr.add] using World.cell?_spot h00
        subst hspot
        have hblk : b < W.heap.size := by
          have := World.block_lt_of_cell? W _ h00
          simpa [Addr.add] using this
        exact .inr ⟨b, off, rfl, hblk, fun r h => by rw [← add_plain]; exact (hr r (by omega)).1⟩
    · obtain ⟨_, hLC, _, hZ, _, hno, hyes⟩ := hr r (by omega)
      by_cases h0 : L r = 0
      · exact .inl h0
      · cases hA : A r with
        | none => have := hno hA; omega
        | some ad =>
          obtain ⟨_, hcell⟩ := hyes ad hA
          obtain ⟨b, off, spot⟩ := ad
          have h00 := hcell 0 (by omega)
          have hspot : spot = none := by simpa [Addr.add] using World.cell?_spot h00
          subst hspot
          have hblk : b < W.heap.size := by
            have := World.block_lt_of_cell? W _ h00
            simpa [Addr.add] using this
          refine .inr ⟨b, off, rfl, hblk, by omega, fun j hj => ?_⟩
          rw [← add_plain, hcell j (by omega)]
          dsimp only
          rw [if_pos (by omega), Int.toNat_of_nonneg (hb r (by omega) j).1]
    · show (if r < cap then ((Z r).getD j 0).toNat else 0) < 256
      by_cases h : r < cap
      · rw [if_pos h]; have := hb r h j; omega
      · rw [if_neg h]; decide
set_option maxRecDepth 100000 in
theorem ShaWrites_lifted (os : Os) (started : os.Started) (H : Type) (enc : TypeId × Value → H) :
    ReturnsInHanded {} Tryd.checked os 4 .any (fun w args => (Rows.shaWritesSpec.pre enc Tryd.prog Tryd.f4 [] false w args ∧ laidMetH Tryd.prog Rows.shaWritesRow.laid w) ∧ sizedMet enc Tryd.prog Tryd.f4 (OpenSpec.ofChange Rows.shaWritesSpec) false w args)
      (Rows.shaWritesSpec.post enc Tryd.prog Tryd.f4 false true false false) := by
  refine returnsInHanded_of_change_and (C := Tryd.checked) (X := fun w _ => laidMetH Tryd.prog Rows.shaWritesRow.laid w) (fun _ _ _ hh h => h.of_heap hh) own started (by kernel_rfl) Tryd.func4
    (ChangeSpec.witness_shaped (enc := enc) (C := Tryd.checked) (os := os) (X := fun w _ => laidMetH Tryd.prog Rows.shaWritesRow.laid w) false (World.doorLaid Tryd.prog 14 os) #[.slice none 0 0] 8 rfl (World.shaped_of_RefB (by kernel_rfl) (by kernel_rfl)) (by kernel_rfl) (by kernel_rfl) (by kernel_rfl) (door_met os _)) ?_
  intro W base args ds gs before hval0 hW _ _ hL _
  have hval : ∀ (j : Nat) t v, Tryd.f4.params[j]? = some t → args[j]? = some v → Value.okWide Tryd.prog W .any base t v := hval0
  have hW' := hW
  obtain ⟨p, q, hA0, hV, rfl, _, _⟩ := hW
  have hA : DataW.TrodAll enc Tryd.prog W 0 (fun _ => true) true Tryd.f4.params.toList args.toList ds p := hA0
  rw [Tryd.params4] at hA hval
  obtain ⟨v0, d0, rfl, rfl, h0⟩ := trodAll_one hA
  obtain ⟨rfl, rfl⟩ := trodVars_none hV
  obtain ⟨a0, len, cap, rfl⟩ := okWide_slice Tryd.underlying28 (hval 0 28 v0 rfl rfl)
  have h0k := h0
  obtain ⟨fuel, hf⟩ := h0
  clear hA0 hval0
  simp only [List.append_nil] at hW'
  have hlt : ∀ x ∈ p, x.block < W.heap.size := fun x hx => by simpa using hW'.lt x hx
  obtain ⟨A, L, C, Y, hP⟩ := parts_of (by simpa [Value.cells] using hf)
  refine (writes_walk a0 len cap A L C Y W (kt_of_laid hL) hP).mono fun e W' ⟨he, hb⟩ => ?_
  subst he
  exact ⟨_, rfl, _, _, _, [], p, [], hW', trodAll_mk1 (shut_bool Tryd.underlying4 true), trodAll_mk1 (Below.trod laidOut (by kernel_rfl) (of_decide_eq_true (by kernel_rfl)) h0k hb hlt), rfl, hb.frame _, fun h => by cases h⟩

theorem ShaWrites_over : Rows.shaWritesRow.holds Tryd.pinned (OpenSpec.ofChange Rows.shaWritesSpec) :=
  OpenClaim.holds_of_wide 4 Tryd.f4 rfl rfl rfl rfl rfl rfl rfl ⟨rfl, rfl, rfl, rfl, rfl⟩ rfl rfl rfl rfl rfl (by kernel_rfl) Tryd.func4 (by kernel_rfl)
    (of_decide_eq_true (by kernel_rfl)) (by unfold Func.isWrapper; rw [if_neg (of_decide_eq_false (by kernel_rfl))]; exact ⟨rfl, rfl⟩)
    (fun os started H enc _ => ShaWrites_lifted os started H enc)

theorem ShaWrites_holds : Rows.ShaWritesCardSaid :=
  Claim7.holds_tied_plain_at .later [] [.data] true _ false
    ShaWrites_over (fun _ h => by cases h) (by kernel_rfl) (fun _ h => by cases h) shaWrites_row_tie rfl ⟨rfl, rfl⟩ (by kernel_rfl) rfl
    (fun f fn hf hfn => by
      obtain rfl : f = 4 := Option.some.inj ((show Tryd.prog.funcNamed "clapper/clapperlaw03.ShaWrites" = some 4 by kernel_rfl).symm.trans hf) |>.symm
      obtain rfl : fn = Tryd.f4 := (Option.some.inj (Tryd.func4.symm.trans hfn)).symm
      exact ⟨by kernel_rfl, fun j t ht => by
        rw [Tryd.params4] at ht
        have hm : t ∈ [28] := by simpa using Array.mem_of_getElem? ht
        have hall : ([28].all fun u => !Tryd.prog.wantsStandIn u) = true := by kernel_rfl
        exact (show Tryd.prog.wantsStandIn t = false by simpa using List.all_eq_true.1 hall t hm)⟩)
    (by kernel_rfl)
end

#print axioms ShaWrites_holds
end Go.Proofs.YtihjmfonalohaaaDoor
