/-
  MacCodes: the code of any text in any parts, with any key, is the document's; Same tells whether any bytes are alike. The package's table of round words is as its initialiser laid it (the tied row's condition).
-/
import Derived.Test.YtmgogcoafhompaaDoorM7
import Derived.Test.YtmgogcoafhompaaDoorM2
import Derived.Test.YtmgogcoafhompaaDoorSSum
import Derived.Test.YtmgogcoafhompaaDoorTie
import Derived.Test.YtmgogcoafhompaaDoorCards
import Derived.SevenTiedAt
import Derived.WalkKit
import Derived.WalkSpells
import Derived.WalkLawsBesides
import Derived.Deep.LoopGhost
import Derived.Deep.Cut
import Derived.Deep.CutRange
import Derived.Deep.RegionHeld3
import Derived.BigQuiet
namespace Go.Proofs.YtmgogcoafhompaaDoor
open Go.RowKit

/-! ### texts are alike just if they are the same string -/
theorem push_all : ∀ (l : List Int) (r : ByteArray), (l.foldl (fun r n => r.push (UInt8.ofNat n.toNat)) r).data.toList = r.data.toList ++ l.map fun n => UInt8.ofNat n.toNat
  | [], r => by simp
  | x :: l, r => by rw [List.foldl_cons, push_all l]; simp [ByteArray.push]
theorem bstr_data (y : Nat → Nat) (n : Nat) : (bstr y n).data.toList = (List.range n).map fun j => UInt8.ofNat (y j) := by
  unfold bstr
  rw [push_all]
  simp [ByteArray.empty, ByteArray.emptyWithCapacity, Function.comp_def]
  rfl
theorem bstr_inj {y z : Nat → Nat} (hy : ∀ j, y j < 256) (hz : ∀ j, z j < 256) {n m : Nat} (h : bstr y n = bstr z m) : eqB y n z m = true := by
  have h1 : (List.range n).map (fun j => UInt8.ofNat (y j)) = (List.range m).map fun j => UInt8.ofNat (z j) := by rw [← bstr_data, ← bstr_data, h]
  have hn : n = m := by simpa using congrArg List.length h1
  subst hn
  refine decide_eq_true ⟨rfl, fun j hj => ?_⟩
  have h2 : (((List.range n).map fun j => UInt8.ofNat (y j))[j]?) = (((List.range n).map fun j => UInt8.ofNat (z j))[j]?) := by rw [h1]
  simp only [List.getElem?_map, List.getElem?_range hj, Option.map_some, Option.some.injEq] at h2
  have h3 := congrArg UInt8.toNat h2
  simp only [UInt8.toNat_ofNat'] at h3
  have e1 := hy j
  have e2 := hz j
  omega
theorem bstr_eq {y z : Nat → Nat} {n m : Nat} (h : eqB y n z m = true) : bstr y n = bstr z m := by
  obtain ⟨rfl, h'⟩ := of_decide_eq_true h
  unfold bstr
  have e : (List.range n).map (fun j => ((y j : Nat) : Int)) = (List.range n).map fun j => ((z j : Nat) : Int) := List.map_congr_left fun j hj => by rw [h' j (by simpa using hj)]
  rw [e]

set_option maxRecDepth 100000 in
set_option maxHeartbeats 4000000 in
theorem codes_big (K AL A0 A1 : Option Addr) (n c nl cl n0 c0 n1 c1 : Nat) (hb : 1000 < n ∨ 30 < nl ∨ 1000 < n0 ∨ 1000 < n1) (w : World) (hK : KT w) :
    Calls Tryd.prog 3 #[.slice K n c, .slice AL nl cl, .slice A0 n0 c0, .slice A1 n1 c1] w fun e w' => e = .returned (.bool true) ∧ Below w.heap.size w w' := by
  have h1 : 1000 < n ∨ (n ≤ 1000 ∧ 30 < nl) ∨ (n ≤ 1000 ∧ nl ≤ 30 ∧ 1000 < n0) ∨ (n ≤ 1000 ∧ nl ≤ 30 ∧ n0 ≤ 1000 ∧ 1000 < n1) := by omega
  clear hb
  rcases h1 with h | ⟨h, h2⟩ | ⟨h, h2, h3⟩ | ⟨h, h2, h3, h4⟩
  all_goals
    go_enter Tryd.func3, Tryd.ntmps3
    go_wp2_with fail
    refine (up_calls w hK).mono ?_
    rintro e w1 ⟨rfl, hb1⟩
    clear hK
    go_wp2
    go_ret
    exact ⟨rfl, hb1⟩

set_option maxRecDepth 100000 in
set_option maxHeartbeats 8000000 in
theorem codes_small (K AL A0 A1 : Option Addr) (n c nl cl n0 c0 n1 c1 : Nat) (y y0 y1 : Nat → Nat) (A : Nat → Option Addr) (L C : Nat → Nat) (Y : Nat → Nat → Nat) (hy : ∀ j, y j < 256) (hy0 : ∀ j, y0 j < 256) (hy1 : ∀ j, y1 j < 256)
    (hn : n ≤ 1000) (hnl : nl ≤ 30) (hn0 : n0 ≤ 1000) (hn1 : n1 ≤ 1000) (hnc : n ≤ c) (w : World) (hK : KT w) (hS : Src w K n y w.heap.size) (hP : Parts3 w AL nl A L C Y) (hS0 : Src w A0 n0 y0 w.heap.size) (hS1 : Src w A1 n1 y1 w.heap.size) :
    Calls Tryd.prog 3 #[.slice K n c, .slice AL nl cl, .slice A0 n0 c0, .slice A1 n1 c1] w fun e w' => e = .returned (.bool true) ∧ Below w.heap.size w w' := by
  obtain ⟨i8, hi8, hz0, hz1, hz2⟩ := info_parts infoB3
  have HI := veil (And.intro hi8 (And.intro hz0 (And.intro hz1 hz2)))
  have HY := veil (And.intro hy (And.intro hy0 hy1))
  have h1 : (n : Int) ≤ 1000 := by omega
  have h2 : (nl : Int) ≤ 30 := by omega
  have h3 : (n0 : Int) ≤ 1000 := by omega
  have h4 : (n1 : Int) ≤ 1000 := by omega
  have HS := veil (And.intro hS (And.intro hS0 hS1))
  have HP := veil hP
  have HK := veil hK
  have hg0 := hK.lt
  clear hi8 hz0 hz1 hz2 hy hy0 hy1 hS hS0 hS1 hP
  go_enter Tryd.func3, Tryd.ntmps3
  go_wp2_with fail
  refine (up_calls w hK).mono ?_
  rintro e w1 ⟨rfl, hb1⟩
  clear hK
  have hO1 : Own w1 w.heap.size 5 (.slice none 0 0) 0 (fun j => .int .u8 (textN L Y 0 j : Nat)) := Own.nil _ _ _ _
  go_wp2
  go_loopw [10, 11] (fun v10 v11 wr => ∃ i : Nat, i ≤ nl ∧ (∀ r, r < i → L r ≤ 1000) ∧ v11 = .int .i64 (i : Int) ∧ Own wr w.heap.size 5 v10 (lenN L i) (fun j => .int .u8 (textN L Y i j : Nat)) ∧ Below w.heap.size w wr)
    (fun _ v _ => nl - (intOf v).toNat)
  case atStart => exact ⟨0, by omega, fun r hr => by omega, rfl, hO1, hb1⟩
  case round =>
    obtain ⟨i, hi, hL, rfl, hO, hB⟩ := hrel
    have hTl := lenN_le i hL
    by_cases hlt : i < nl
    · have hd1 : decide (i < nl) = true := by simp; omega
      have hd2 : decide ((i : Int) < (nl : Int)) = true := by simp; omega
      have hj2 : (i : Int) < (nl : Int) := by omega
      obtain ⟨bl, ol, hAL, hbl, hcl⟩ := HP.out.row.resolve_left (by omega)
      have cr : wr.cell? ⟨bl, ol + i, none⟩ = some (.slice (A i) (L i) (C i)) := (hB.cell (p := ⟨bl, ol + i, none⟩) hbl).trans (hcl i hlt)
      clear hcl
      subst hAL
      by_cases hbig : 1000 < L i
      · have hbi : (1000 : Int) < (L i : Int) := by omega
        go_wp2
        go_ret
        exact ⟨rfl, hB⟩
      · have hbi : ¬ ((1000 : Int) < (L i : Int)) := by omega
        have HO := veil (And.intro hO (from_now (HP.out.src i hlt) hB))
        have HBB := veil hB
        have hle := hB.size
        have HL := veil hL
        clear hO hL hB
        obtain ⟨T, hT⟩ : ∃ T, T = lenN L i := ⟨_, rfl⟩
        rw [← hT] at HO hTl
        have HT := veil hT
        clear hT
        go_wp2_with ((with_reducible refine at_slot 50 ?_); refine wpList_append_from _ rfl _ _ 22 rfl w.heap.size 5 i8 (.int .u8 0) 1 Tryd.underlying22 HI.out.1 HI.out.2.1 HI.out.2.2.1 HI.out.2.2.2 rfl u10 T _ rfl HO.out.1 (A i) (L i) (C i) rfl _ HO.out.2 (fun _ => rfl) (by unfold maxLen; omega) (by omega) (by omega) ?_; intro v6 w6 hO6 hg6 hat6; clear hat6)
        have hB6 := HBB.out.grown hg6 hle (fun k e => (HO.out.1.lt e).1)
        have hO6' := own_cat hO6
        clear hO6 hg6 cr HO
        go_roundw
        case rel =>
          refine ⟨i + 1, by omega, fun r hr => ?_, by go_num, ?_, hB6⟩
          · by_cases h : r < i
            · exact HL.out r h
            · rw [show r = i by omega]; omega
          · show Own w6 w.heap.size _ v6 (lenN L i + L i) (fun j => .int .u8 (cat (textN L Y i) (lenN L i) (Y i) j : Nat))
            rw [← HT.out]; exact hO6'
        case measure => simp [intOf]; omega
    · have hd1 : decide (i < nl) = false := by simp; omega
      have hd2 : decide ((i : Int) < (nl : Int)) = false := by simp; omega
      obtain rfl : i = nl := by omega
      have hle := hB.size
      obtain ⟨A5, c5, rfl, hc5, hS5⟩ := src_own (g := wr.heap.size) hO (fun b e => by have := (hO.lt e).2; omega)
      obtain ⟨D, hD⟩ : ∃ D, D = macD y n (textN L Y i) (lenN L i) := ⟨_, rfl⟩
      obtain ⟨R, hR⟩ : ∃ R, R = eqB y0 n0 y1 n1 := ⟨_, rfl⟩
      obtain ⟨s0, hs0⟩ : ∃ s, s = bstr y0 n0 := ⟨_, rfl⟩
      obtain ⟨s1, hs1⟩ : ∃ s, s = bstr y1 n1 := ⟨_, rfl⟩
      have hOf : ∀ W, Below wr.heap.size wr W → Calls Tryd.prog 6 #[.slice K n c, .slice AL i cl] W fun e W' => e = .returned (.agg D) ∧ Below wr.heap.size wr W' := fun W hb => by
        have hbW := hB.trans (hb.mono hle)
        rw [hD]
        exact (ofmac_calls K n c y HY.out.1 hnc (by omega) AL i cl A L C Y (by omega) (by omega) W (kt_now HK.out hbW) (src_now HS.out.1 hbW hbW.size) (HP.out.call hbW)).mono fun _ _ h => ⟨h.1, hb.trans (h.2.mono hb.size)⟩
      have hRf : ∀ W, Below wr.heap.size wr W → Calls Tryd.prog 7 #[.slice K n c, .slice A5 (lenN L i) c5] W fun e W' => e = .returned (.agg D) ∧ Below wr.heap.size wr W' := fun W hb => by
        have hbW := hB.trans (hb.mono hle)
        rw [hD]
        exact (rmac_calls (fun A n c y hy hn w hS => rsum_calls A n c y hy hn w hS) K A5 n c (lenN L i) c5 y (textN L Y i) HY.out.1 (textN_lt HP.out.lt i) (by omega) (by omega) W (src_now HS.out.1 hbW hbW.size) (src_now hS5 hb hb.size)).mono fun _ _ h => ⟨h.1, hb.trans (h.2.mono hb.size)⟩
      have hSm : ∀ W, Below wr.heap.size wr W → Calls Tryd.prog 8 #[.slice A0 n0 c0, .slice A1 n1 c1] W fun e W' => e = .returned (.bool R) ∧ Below wr.heap.size wr W' := fun W hb => by
        have hbW := hB.trans (hb.mono hle)
        rw [hR]
        exact (same_calls A0 A1 n0 c0 n1 c1 y0 y1 HY.out.2.1 HY.out.2.2 (by omega) W (src_now HS.out.2.1 hbW hbW.size) (src_now HS.out.2.2 hbW hbW.size)).mono fun _ _ h => ⟨h.1, hb.trans (h.2.mono hb.size)⟩
      have hSn : ∀ W A' c', Below wr.heap.size wr W → Own W wr.heap.size 5 (.slice A' n0 c') n0 (fun j => .int .u8 (y0 j : Nat)) → Calls Tryd.prog 8 #[.slice A0 n0 c0, .slice A' n0 c'] W fun e W' => e = .returned (.bool true) ∧ Below wr.heap.size wr W' := fun W A' c' hb ho => by
        have hbW := hB.trans (hb.mono hle)
        rw [← eqB_self y0 n0]
        exact (same_calls A0 A' n0 c0 n0 c' y0 y0 HY.out.2.1 HY.out.2.1 (by omega) W (src_now HS.out.2.1 hbW hbW.size) (own_src ho)).mono fun _ _ h => ⟨h.1, hb.trans (h.2.mono hb.size)⟩
      have k1 : ∀ W, Below wr.heap.size wr W → (convert 22 9 (.slice A0 n0 c0)).run Tryd.prog W = .ok (.string s0) W := fun W hb => by rw [hs0]; exact str_src (src_now HS.out.2.1 (hB.trans (hb.mono hle)) (Nat.le_refl _))
      have k2 : ∀ W, Below wr.heap.size wr W → (convert 22 9 (.slice A1 n1 c1)).run Tryd.prog W = .ok (.string s1) W := fun W hb => by rw [hs1]; exact str_src (src_now HS.out.2.2 (hB.trans (hb.mono hle)) (Nat.le_refl _))
      have kq : ∀ W, (binOp .eql 26 (.agg D) (.agg D)).run Tryd.prog W = .ok (.bool true) W := fun W => by rw [hD]; exact eql_dgst (macOut y n (textN L Y i) (lenN L i)) 96 W
      have hcase : (R = true ∧ s1 = s0) ∨ (R = false ∧ ¬ s0 = s1) := by
        cases hRc : R with
        | true => left; exact ⟨rfl, by rw [hs0, hs1]; exact (bstr_eq (by rw [← hR, hRc])).symm⟩
        | false => right; exact ⟨rfl, fun e => by
            have := bstr_inj HY.out.2.1 HY.out.2.2 (by rw [← hs0, ← hs1]; exact e)
            rw [← hR, hRc] at this; cases this⟩
      have HOf := veil hOf
      have HRf := veil hRf
      have HSm := veil hSm
      have HSn := veil hSn
      have HBz := veil hB
      have HFA := veil (fun W (hb : Below wr.heap.size wr W) => from_now HS.out.2.1 (hB.trans (hb.mono hle)))
      have hS0 : Below wr.heap.size wr wr := Below.refl _ _
      clear hOf hRf hSm hSn hD hR hs0 hs1 hB hO hS5 hL hTl hO1 hb1 hd1
      rcases hcase with ⟨rfl, rfl⟩ | ⟨rfl, hne⟩
      · go_upto_region 11 with (fail)
        clear hd2
        go_region_held3 (fun W => Below wr.heap.size wr W)
          (first
            | with_reducible assumption
            | exact hS0
            | exact hS0.drew
            | exact hb8.alloc hb8.size _)
          (first
            | (go_at_call 6; (with_reducible refine (HOf.out _ (by with_reducible assumption)).mono ?_); rintro e w6 ⟨rfl, hb6⟩)
            | (go_at_call 7; (with_reducible refine (HRf.out _ (by with_reducible assumption)).mono ?_); rintro e w7 ⟨rfl, hb7⟩)
            | (go_at_call 8; (first
                | ((with_reducible refine (HSm.out _ (by with_reducible assumption)).mono ?_); rintro e w8 ⟨rfl, hb8⟩)
                | ((with_reducible refine (HSn.out _ _ _ hb9 hO9).mono ?_); rintro e w10 ⟨rfl, hb10⟩)
                | fail))
            | ((with_reducible refine at_slotR 76 ?_); refine step_append_wanted _ (by rfl) _ _ 22 rfl wr.heap.size 5 i8 (.int .u8 0) 1 Tryd.underlying22 HI.out.1 HI.out.2.1 HI.out.2.2.1 HI.out.2.2.2 rfl (.slice (some ⟨w8.heap.size, 0, none⟩) 0 0) 0 _ rfl (Own.made (e := 5) (f := fun _ => .int .u8 0) w8 (cs := #[]) (base := wr.heap.size) hb8.size (by decide) (fun i hi => by simp at hi)) A0 n0 c0 rfl _ (HFA.out _ (hb8.alloc hb8.size _)) (fun _ => rfl) (by unfold maxLen; omega) (by omega) (by have := hb8.size; simp; omega) ?_; intro v9 w9 hO9 hg9 _; have hb9 := (hb8.alloc hb8.size (.cells #[] 5)).grown hg9 (by have := hb8.size; simp; omega) (fun k e => by have := hb8.size; simp [Value.ownBlock] at e; omega); replace hO9 := own_first (f := fun j => .int .u8 (y0 j : Nat)) hO9; obtain ⟨A9, c9, rfl, -, -⟩ := own_slice hO9))
        clear k1 k2 kq HOf HRf HSm HSn HFA
        go_wp2
        go_ret
        exact ⟨rfl, HBz.out.trans (hb10.mono hle)⟩
      · go_upto_region 11 with (fail)
        clear hd2
        have hne : ¬ s0.toList = s1.toList := fun e => hne (Go.WideShapes.bytes_inj (by rw [← ByteArray.toList_eq, ← ByteArray.toList_eq, e]))
        have hne2 : (s0.toList == s1.toList) = false := by simpa using hne
        go_region_held3 (fun W => Below wr.heap.size wr W)
          (first
            | with_reducible assumption
            | exact hS0
            | exact hS0.drew
            | exact hb8.alloc hb8.size _)
          (first
            | (go_at_call 6; (with_reducible refine (HOf.out _ (by with_reducible assumption)).mono ?_); rintro e w6 ⟨rfl, hb6⟩)
            | (go_at_call 7; (with_reducible refine (HRf.out _ (by with_reducible assumption)).mono ?_); rintro e w7 ⟨rfl, hb7⟩)
            | (go_at_call 8; (first
                | ((with_reducible refine (HSm.out _ (by with_reducible assumption)).mono ?_); rintro e w8 ⟨rfl, hb8⟩)
                | ((with_reducible refine (HSn.out _ _ _ hb9 hO9).mono ?_); rintro e w10 ⟨rfl, hb10⟩)
                | fail))
            | ((with_reducible refine at_slotR 76 ?_); refine step_append_wanted _ (by rfl) _ _ 22 rfl wr.heap.size 5 i8 (.int .u8 0) 1 Tryd.underlying22 HI.out.1 HI.out.2.1 HI.out.2.2.1 HI.out.2.2.2 rfl (.slice (some ⟨w8.heap.size, 0, none⟩) 0 0) 0 _ rfl (Own.made (e := 5) (f := fun _ => .int .u8 0) w8 (cs := #[]) (base := wr.heap.size) hb8.size (by decide) (fun i hi => by simp at hi)) A0 n0 c0 rfl _ (HFA.out _ (hb8.alloc hb8.size _)) (fun _ => rfl) (by unfold maxLen; omega) (by omega) (by have := hb8.size; simp; omega) ?_; intro v9 w9 hO9 hg9 _; have hb9 := (hb8.alloc hb8.size (.cells #[] 5)).grown hg9 (by have := hb8.size; simp; omega) (fun k e => by have := hb8.size; simp [Value.ownBlock] at e; omega); replace hO9 := own_first (f := fun j => .int .u8 (y0 j : Nat)) hO9; obtain ⟨A9, c9, rfl, -, -⟩ := own_slice hO9))
        clear k1 k2 kq HOf HRf HSm HSn HFA
        go_wp2
        go_ret
        exact ⟨rfl, HBz.out.trans (hb10.mono hle)⟩

/-! ### the statement -/
section
open Go.ChangeShapes Go.WideShapes Go.ChangeAt
theorem codes_walk (K AL A0 A1 : Option Addr) (n c nl cl n0 c0 n1 c1 : Nat) (y y0 y1 : Nat → Nat) (A : Nat → Option Addr) (L C : Nat → Nat) (Y : Nat → Nat → Nat) (hy : ∀ j, y j < 256) (hy0 : ∀ j, y0 j < 256) (hy1 : ∀ j, y1 j < 256)
    (hnc : n ≤ c) (w : World) (hK : KT w) (hS : Src w K n y w.heap.size) (hP : Parts3 w AL nl A L C Y) (hS0 : Src w A0 n0 y0 w.heap.size) (hS1 : Src w A1 n1 y1 w.heap.size) :
    Calls Tryd.prog 3 #[.slice K n c, .slice AL nl cl, .slice A0 n0 c0, .slice A1 n1 c1] w fun e w' => e = .returned (.bool true) ∧ Below w.heap.size w w' := by
  by_cases h : 1000 < n ∨ 30 < nl ∨ 1000 < n0 ∨ 1000 < n1
  · exact codes_big K AL A0 A1 n c nl cl n0 c0 n1 c1 h w hK
  · exact codes_small K AL A0 A1 n c nl cl n0 c0 n1 c1 y y0 y1 A L C Y hy hy0 hy1 (by omega) (by omega) (by omega) (by omega) hnc w hK hS hP hS0 hS1
set_option maxRecDepth 100000 in
theorem MacCodes_lifted (os : Os) (started : os.Started) (H : Type) (enc : TypeId × Value → H) :
    ReturnsInHanded {} Tryd.checked os 3 .any (fun w args => (Rows.macCodesSpec.pre enc Tryd.prog Tryd.f3 [] false w args ∧ laidMetH Tryd.prog Rows.macCodesRow.laid w) ∧ sizedMet enc Tryd.prog Tryd.f3 (OpenSpec.ofChange Rows.macCodesSpec) false w args)
      (Rows.macCodesSpec.post enc Tryd.prog Tryd.f3 false true false false) := by
  refine returnsInHanded_of_change_and (C := Tryd.checked) (X := fun w _ => laidMetH Tryd.prog Rows.macCodesRow.laid w) (fun _ _ _ hh h => h.of_heap hh) own started (by kernel_rfl) Tryd.func3
    (ChangeSpec.witness_shaped (enc := enc) (C := Tryd.checked) (os := os) (X := fun w _ => laidMetH Tryd.prog Rows.macCodesRow.laid w) false (World.doorLaid Tryd.prog 14 os) #[.slice none 0 0, .slice none 0 0, .slice none 0 0, .slice none 0 0] 8 rfl (World.shaped_of_RefB (by kernel_rfl) (by kernel_rfl)) (by kernel_rfl) (by kernel_rfl) (by kernel_rfl) (door_met os _)) ?_
  intro W base args ds gs before hval0 hW _ _ hL _
  have hval : ∀ (j : Nat) t v, Tryd.f3.params[j]? = some t → args[j]? = some v → Value.okWide Tryd.prog W .any base t v := hval0
  have hW' := hW
  obtain ⟨p, q, hA0, hV, rfl, _, _⟩ := hW
  have hA : DataW.TrodAll enc Tryd.prog W 0 (fun _ => true) true Tryd.f3.params.toList args.toList ds p := hA0
  rw [Tryd.params3] at hA hval
  obtain ⟨v0, v1, v2, v3, d0, d1, d2, d3, p0, p1, p2, p3, rfl, rfl, rfl, h0, h1, h2, h3⟩ := trodAll_four hA
  obtain ⟨rfl, rfl⟩ := trodVars_none hV
  obtain ⟨a0, len0, cap0, rfl⟩ := okWide_slice Tryd.underlying22 (hval 0 22 v0 rfl rfl)
  obtain ⟨a1, len1, cap1, rfl⟩ := okWide_slice Tryd.underlying23 (hval 1 23 v1 rfl rfl)
  obtain ⟨a2, len2, cap2, rfl⟩ := okWide_slice Tryd.underlying22 (hval 2 22 v2 rfl rfl)
  obtain ⟨a3, len3, cap3, rfl⟩ := okWide_slice Tryd.underlying22 (hval 3 22 v3 rfl rfl)
  have h0k := h0
  obtain ⟨fuel0, hf0⟩ := h0
  have h1k := h1
  obtain ⟨fuel1, hf1⟩ := h1
  have h2k := h2
  obtain ⟨fuel2, hf2⟩ := h2
  have h3k := h3
  obtain ⟨fuel3, hf3⟩ := h3
  clear hA0 hval0
  simp only [List.append_nil] at hW'
  have hlt0 : ∀ x ∈ p0, x.block < W.heap.size := fun x hx => by simpa using hW'.lt x (by simp [hx])
  have hlt1 : ∀ x ∈ p1, x.block < W.heap.size := fun x hx => by simpa using hW'.lt x (by simp [hx])
  have hlt2 : ∀ x ∈ p2, x.block < W.heap.size := fun x hx => by simpa using hW'.lt x (by simp [hx])
  have hlt3 : ∀ x ∈ p3, x.block < W.heap.size := fun x hx => by simpa using hW'.lt x (by simp [hx])
  obtain ⟨y0, hy0, hs0, hlc0⟩ := src_of (by simpa [Value.cells] using hf0) hlt0
  obtain ⟨A1, L1, C1, Y1, hP1⟩ := parts_of (by simpa [Value.cells] using hf1)
  obtain ⟨y2, hy2, hs2, hlc2⟩ := src_of (by simpa [Value.cells] using hf2) hlt2
  obtain ⟨y3, hy3, hs3, hlc3⟩ := src_of (by simpa [Value.cells] using hf3) hlt3
  refine (codes_walk a0 a1 a2 a3 len0 cap0 len1 cap1 len2 cap2 len3 cap3 y0 y2 y3 A1 L1 C1 Y1 hy0 hy2 hy3 hlc0 W (kt_of_laid hL) hs0 hP1 hs2 hs3).mono fun e W' ⟨he, hb⟩ => ?_
  subst he
  exact ⟨_, rfl, _, _, _, [], _, [], hW', trodAll_mk1 (shut_bool Tryd.underlying4 true), trodAll_mk4 (Below.trod laidOut (by kernel_rfl) (of_decide_eq_true (by kernel_rfl)) h0k hb hlt0) (Below.trod laidOut (by kernel_rfl) (of_decide_eq_true (by kernel_rfl)) h1k hb hlt1) (Below.trod laidOut (by kernel_rfl) (of_decide_eq_true (by kernel_rfl)) h2k hb hlt2) (Below.trod laidOut (by kernel_rfl) (of_decide_eq_true (by kernel_rfl)) h3k hb hlt3), rfl, hb.frame _, fun h => by cases h⟩

theorem MacCodes_over : Rows.macCodesRow.holds Tryd.pinned (OpenSpec.ofChange Rows.macCodesSpec) :=
  OpenClaim.holds_of_wide 3 Tryd.f3 rfl rfl rfl rfl rfl rfl rfl ⟨rfl, rfl, rfl, rfl, rfl⟩ rfl rfl rfl rfl rfl (by kernel_rfl) Tryd.func3 (by kernel_rfl)
    (of_decide_eq_true (by kernel_rfl)) (by unfold Func.isWrapper; rw [if_neg (of_decide_eq_false (by kernel_rfl))]; exact ⟨rfl, rfl⟩)
    (fun os started H enc _ => MacCodes_lifted os started H enc)

theorem MacCodes_holds : Rows.MacCodesCardSaid :=
  Claim7.holds_tied_plain_at .later [] [.data] true _ false
    MacCodes_over (fun _ h => by cases h) (by kernel_rfl) (fun _ h => by cases h) macCodes_row_tie rfl ⟨rfl, rfl⟩ (by kernel_rfl) rfl
    (fun f fn hf hfn => by
      obtain rfl : f = 3 := Option.some.inj ((show Tryd.prog.funcNamed "clapper/clapperlaw04.MacCodes" = some 3 by kernel_rfl).symm.trans hf) |>.symm
      obtain rfl : fn = Tryd.f3 := (Option.some.inj (Tryd.func3.symm.trans hfn)).symm
      exact ⟨by kernel_rfl, fun j t ht => by
        rw [Tryd.params3] at ht
        have hm : t ∈ [22, 23, 22, 22] := by simpa using Array.mem_of_getElem? ht
        have hall : ([22, 23, 22, 22].all fun u => !Tryd.prog.wantsStandIn u) = true := by kernel_rfl
        exact (show Tryd.prog.wantsStandIn t = false by simpa using List.all_eq_true.1 hall t hm)⟩)
    (by kernel_rfl)
end

#print axioms MacCodes_holds
end Go.Proofs.YtmgogcoafhompaaDoor
