/-
  clapperlaw06.NonceLists: the candidates are the document's.
-/
import Derived.Test.YthgenmoiendakaaDoorZ17
import Derived.Test.YthgenmoiendakaaDoorZ11
import Derived.Test.YthgenmoiendakaaDoorZ16
namespace Go.Proofs.YthgenmoiendakaaDoor
open Go.RowKit

theorem eqE1 (w : World) : (binOp .eql 30 (.iface 34 (.int .i64 1)) (.iface 34 (.int .i64 1))).run Tryd.prog w = .ok (.bool true) w := by kernel_rfl
theorem eqE4 (w : World) : (binOp .eql 30 (.iface 34 (.int .i64 4)) (.iface 34 (.int .i64 4))).run Tryd.prog w = .ok (.bool true) w := by kernel_rfl
set_option maxRecDepth 100000 in
set_option maxHeartbeats 8000000 in
theorem lists_bad (D : Nat) (hD : D < top) (y : Nat → Nat) (k : Int) (hb : mayB D = false ∨ k < 0 ∨ 16 < k) (w : World) (hK : KT w) :
    Calls Tryd.prog 3 #[nv D, .agg (arrOf 32 fun i => .int .u8 (y i : Nat)), .int .i64 k] w fun e w' => e = .returned (.bool true) ∧ Ext w w' := by
  have KL := veil (fun W => list_bad D hD y k hb W)
  have KM := veil (fun W => may_calls D hD W)
  obtain ⟨m, hm⟩ : ∃ m, m = mayB D := ⟨_, rfl⟩
  rw [← hm] at hb KM
  obtain ⟨F, hF⟩ : ∃ F, F = arrOf 32 fun i => Value.int .u8 (y i : Nat) := ⟨_, rfl⟩
  rw [← hF] at KL ⊢
  have HF := veil (show F.size = 32 ∧ (Tryd.prog.info? 26).map (·.size) = some F.size from by rw [hF, arrOf_size]; exact ⟨rfl, infoD⟩)
  have HK := veil hK
  clear hF hD hK hm
  obtain ⟨C, hC⟩ : ∃ C, C = nc D := ⟨_, rfl⟩
  rw [show nv D = .agg C from by rw [hC]; rfl] at KL KM ⊢
  have HC := veil (show (Tryd.prog.info? 24).map (·.size) = some C.size from by rw [hC]; exact iN D)
  clear hC
  go_enter Tryd.func3, Tryd.ntmps3
  go_upto_region 1 with (fail)
  have hc1 : (w.alloc (.cells C 24)).heap[w.heap.size]? = some (.cells C 24 (0, 0)) := heap_alloc_last w _
  have hz1 : (w.alloc (.cells C 24)).heap.size = w.heap.size + 1 := by simp
  have hE1 := Ext.alloc w (.cells C 24)
  generalize w.alloc (.cells C 24) = w1 at *
  have hf2 : (w1.alloc (.cells F 26)).heap[w.heap.size + 1]? = some (.cells F 26 (0, 0)) := by rw [← hz1]; exact heap_alloc_last w1 _
  have hc2 := (Ext.alloc w1 (.cells F 26)).block hc1
  have hE2 := hE1.trans (Ext.alloc w1 (.cells F 26))
  generalize w1.alloc (.cells F 26) = w2 at *
  have H2 := veil (And.intro hc2 (And.intro hf2 (And.intro hE2 (HK.out.call hE2))))
  clear hc1 hz1 hE1 hf2 hc2 hE2 HK
  have KU := veil (up6_calls w2 H2.out.2.2.2)
  go_upto_region 2 with (go_at_call 5; refine KU.out.mono ?_; rintro e w3 ⟨rfl, hE3⟩)
  have H3 := veil (And.intro (hE3.block H2.out.1) (And.intro (hE3.block H2.out.2.1) (H2.out.2.2.1.trans hE3)))
  clear H2 hE3 KU
  go_upto_region 3 with (first
    | ((with_reducible refine at_slot 15 ?_); refine wpList_load_row rfl 24 _ rfl w.heap.size rfl 24 C (0, 0) _ H3.out.1 Tryd.underlying24 rfl HC.out ?_)
    | ((with_reducible refine at_slot 16 ?_); refine wpList_load_row rfl 26 _ rfl (w.heap.size + 1) rfl 26 F (0, 0) _ H3.out.2.1 Tryd.underlying26 rfl HF.out.2 ?_)
    | (go_at_call 6; refine (KL.out _).mono ?_; rintro e w4 ⟨rfl, hE4⟩))
  have H4 := veil (And.intro (hE4.block H3.out.1) (H3.out.2.2.trans hE4))
  clear H3 hE4 KL
  go_upto_region 4 with (first
    | ((with_reducible refine at_slot 21 ?_); refine wpList_load_row rfl 24 _ rfl w.heap.size rfl 24 C (0, 0) _ H4.out.1 Tryd.underlying24 rfl HC.out ?_)
    | (go_at_call 7; refine (KM.out _).mono ?_; rintro e w5 ⟨rfl, hE5⟩))
  have hE := H4.out.2.trans hE5
  have he1 := eqE1 w5
  clear H4 hE5 KM
  cases m with
  | false =>
    clear hb
    go_wp2
    go_ret
    exact ⟨rfl, hE⟩
  | true =>
    by_cases hk : k < 0
    · have hd : decide (k < 0) = true := decide_eq_true hk
      clear hb
      go_wp2
      go_ret
      exact ⟨rfl, hE⟩
    · have hk16 : 16 < k := by rcases hb with h | h | h; exact absurd h (by decide); exact absurd h hk; exact h
      have hd : decide (k < 0) = false := decide_eq_false hk
      have hd2 : decide (16 < k) = true := decide_eq_true hk16
      clear hb
      go_wp2
      go_ret
      exact ⟨rfl, hE⟩
set_option maxRecDepth 100000 in
set_option maxHeartbeats 8000000 in
theorem lists_good (D : Nat) (hD : D < top) (y : Nat → Nat) (hy : ∀ j, y j < 256) (m : Nat) (hm : m ≤ 16) (hb : mayB D = true) (w : World) (hK : KT w) :
    Calls Tryd.prog 3 #[nv D, .agg (arrOf 32 fun i => .int .u8 (y i : Nat)), .int .i64 (m : Int)] w fun e w' => e = .returned (.bool true) ∧ Ext w w' := by
  have KL := veil (fun W hK => list_good D hD y hy m hm hb W hK)
  have KR := veil (fun W => rlist_calls rsum_calls D y hy m hm W)
  have KM := veil (fun W => may_calls D hD W)
  rw [hb] at KM
  obtain ⟨M, hM⟩ : ∃ M, M = num32 y % Pt.nn := ⟨_, rfl⟩
  rw [← hM] at KL KR
  obtain ⟨F, hF⟩ : ∃ F, F = arrOf 32 fun i => Value.int .u8 (y i : Nat) := ⟨_, rfl⟩
  rw [← hF] at KL KR ⊢
  have HF := veil (show F.size = 32 ∧ (Tryd.prog.info? 26).map (·.size) = some F.size from by rw [hF, arrOf_size]; exact ⟨rfl, infoD⟩)
  have HK := veil hK
  have hd : decide ((m : Int) < 0) = false := decide_eq_false (by omega)
  have hd2 : decide (16 < (m : Int)) = false := decide_eq_false (by omega)
  clear hF hD hK hM hb hy
  obtain ⟨C, hC⟩ : ∃ C, C = nc D := ⟨_, rfl⟩
  rw [show nv D = .agg C from by rw [hC]; rfl] at KL KR KM ⊢
  have HC := veil (show (Tryd.prog.info? 24).map (·.size) = some C.size from by rw [hC]; exact iN D)
  clear hC
  go_enter Tryd.func3, Tryd.ntmps3
  go_upto_region 1 with (fail)
  have hc1 : (w.alloc (.cells C 24)).heap[w.heap.size]? = some (.cells C 24 (0, 0)) := heap_alloc_last w _
  have hz1 : (w.alloc (.cells C 24)).heap.size = w.heap.size + 1 := by simp
  have hE1 := Ext.alloc w (.cells C 24)
  generalize w.alloc (.cells C 24) = w1 at *
  have hf2 : (w1.alloc (.cells F 26)).heap[w.heap.size + 1]? = some (.cells F 26 (0, 0)) := by rw [← hz1]; exact heap_alloc_last w1 _
  have hc2 := (Ext.alloc w1 (.cells F 26)).block hc1
  have hE2 := hE1.trans (Ext.alloc w1 (.cells F 26))
  generalize w1.alloc (.cells F 26) = w2 at *
  have H2 := veil (And.intro hc2 (And.intro hf2 (And.intro hE2 (HK.out.call hE2))))
  clear hc1 hz1 hE1 hf2 hc2 hE2 HK
  have KU := veil (up6_calls w2 H2.out.2.2.2)
  go_upto_region 2 with (go_at_call 5; refine KU.out.mono ?_; rintro e w3 ⟨rfl, hE3⟩)
  have H3 := veil (And.intro (hE3.block H2.out.1) (And.intro (hE3.block H2.out.2.1) (And.intro (H2.out.2.2.1.trans hE3) (H2.out.2.2.2.call hE3))))
  clear H2 hE3 KU
  go_upto_region 3 with (first
    | ((with_reducible refine at_slot 15 ?_); refine wpList_load_row rfl 24 _ rfl w.heap.size rfl 24 C (0, 0) _ H3.out.1 Tryd.underlying24 rfl HC.out ?_)
    | ((with_reducible refine at_slot 16 ?_); refine wpList_load_row rfl 26 _ rfl (w.heap.size + 1) rfl 26 F (0, 0) _ H3.out.2.1 Tryd.underlying26 rfl HF.out.2 ?_)
    | (go_at_call 6; refine (KL.out _ H3.out.2.2.2).mono ?_; rintro e w4 ⟨v, ev, rfl, hR, hE4⟩))
  have H4 := veil (And.intro (hE4.block H3.out.1) (And.intro (hE4.block H3.out.2.1) (H3.out.2.2.1.trans hE4)))
  have HR := veil hR
  clear H3 hE4 KL hR
  go_upto_region 4 with (first
    | ((with_reducible refine at_slot 21 ?_); refine wpList_load_row rfl 24 _ rfl w.heap.size rfl 24 C (0, 0) _ H4.out.1 Tryd.underlying24 rfl HC.out ?_)
    | (go_at_call 7; refine (KM.out _).mono ?_; rintro e w5 ⟨rfl, hE5⟩))
  have H5 := veil (And.intro (hE5.block H4.out.1) (And.intro (hE5.block H4.out.2.1) (And.intro (H4.out.2.2.trans hE5) (HR.out.ext hE5))))
  clear H4 HR hE5 KM
  go_upto_region 7 with (first
    | ((with_reducible refine at_slot 44 ?_); refine wpList_load_row rfl 24 _ rfl w.heap.size rfl 24 C (0, 0) _ H5.out.1 Tryd.underlying24 rfl HC.out ?_)
    | ((with_reducible refine at_slot 45 ?_); refine wpList_load_row rfl 26 _ rfl (w.heap.size + 1) rfl 26 F (0, 0) _ H5.out.2.1 Tryd.underlying26 rfl HF.out.2 ?_)
    | (go_at_call 8; refine (KR.out _).mono ?_; rintro e w6 ⟨s, v2, hEn, rfl, hO2, hE6⟩))
  have hE := H5.out.2.2.1.trans hE6
  have hR := H5.out.2.2.2.ext hE6
  obtain ⟨s', hEn', hR⟩ := hR
  obtain rfl := hEn'.same hEn
  clear hd hd2 H5 KR hE6
  obtain ⟨A2, c2, rfl, _⟩ := hO2.form
  rcases hR with ⟨hfull, rfl, hO⟩ | ⟨hless, rfl, rfl⟩
  · have hl := hEn.full hfull
    obtain ⟨A, c, rfl, _⟩ := hO.form
    rw [hl] at hO hO2 ⊢
    clear hEn hEn' hfull
    generalize outN D M s' = xs at *
    have HO := veil (And.intro hO (And.intro hO2 (And.intro hl hE)))
    have hmm : decide (m < m) = false := by simp
    clear hO hO2 hl hE
    go_upto_region 12 with (fail)
    go_loopw [12] (fun v wr => ∃ i : Nat, i ≤ m ∧ v = .int .i64 (i : Int) ∧ Ext w6 wr)
      (fun v _ => m - (intOf v).toNat)
    case atStart => exact ⟨0, by omega, rfl, Ext.refl _⟩
    case round =>
      obtain ⟨i, hi, rfl, hE⟩ := hrel
      by_cases hlt : i < m
      · have hlx : i < xs.length := by rw [HO.out.2.2.1]; exact hlt
        obtain ⟨g, cap, hv, _, _, hr⟩ := (HO.out.1.ext hE).at (i := i) hlx
        injection hv with hA hA1 hA2
        subst hA
        obtain ⟨g2, cap2, hv2, _, _, hr2⟩ := (HO.out.2.1.ext hE).at (i := i) hlx
        injection hv2 with hB hB1 hB2
        subst hB
        clear hA1 hA2 hB1 hB2
        generalize xs[i]'hlx = X at *
        have c0 : wr.cell? ⟨g, i * 4, none⟩ = some (.int .u64 (wd X 0)) := hr 0 _ rfl
        have c1 : wr.cell? ⟨g, i * 4 + 1, none⟩ = some (.int .u64 (wd X 1)) := hr 1 _ rfl
        have c2 : wr.cell? ⟨g, i * 4 + 2, none⟩ = some (.int .u64 (wd X 2)) := hr 2 _ rfl
        have c3 : wr.cell? ⟨g, i * 4 + 3, none⟩ = some (.int .u64 (wd X 3)) := hr 3 _ rfl
        have d0 : wr.cell? ⟨g2, i * 4, none⟩ = some (.int .u64 (wd X 0)) := hr2 0 _ rfl
        have d1 : wr.cell? ⟨g2, i * 4 + 1, none⟩ = some (.int .u64 (wd X 1)) := hr2 1 _ rfl
        have d2 : wr.cell? ⟨g2, i * 4 + 2, none⟩ = some (.int .u64 (wd X 2)) := hr2 2 _ rfl
        have d3 : wr.cell? ⟨g2, i * 4 + 3, none⟩ = some (.int .u64 (wd X 3)) := hr2 3 _ rfl
        have he : ∀ W : World, (binOp .neq 24 (.agg #[.int .u64 (wd (X) 0), .int .u64 (wd (X) 1), .int .u64 (wd (X) 2), .int .u64 (wd (X) 3)]) (.agg #[.int .u64 (wd (X) 0), .int .u64 (wd (X) 1), .int .u64 (wd (X) 2), .int .u64 (wd (X) 3)])).run Tryd.prog W = .ok (.bool false) W := fun W => neN (X := X) W
        simp only [run_neq_struct] at he
        clear hr hr2 hlx
        go_upto_region 14 with (fail)
        go_quiet (fail)
        go_wp2
        go_roundw
        case rel => exact ⟨i + 1, by omega, by go_num, hE.trans (Ext.drewN _ _)⟩
        case measure => simp [intOf]; omega
      · obtain rfl : i = m := by omega
        go_wp2
        go_ret
        exact ⟨rfl, HO.out.2.2.2.trans hE⟩
  · obtain ⟨n, hn⟩ : ∃ n, n = (outN D M s').length := ⟨_, rfl⟩
    rw [← hn] at hless ⊢
    have hd1 : decide ((n : Int) < (m : Int)) = true := by simp; omega
    have hd2 : decide (n < m) = true := decide_eq_true hless
    have he4 := eqE4 w6
    clear hn hO2 hEn hEn'
    go_wp2
    go_ret
    exact ⟨rfl, hE⟩
theorem lists_walk (D : Nat) (hD : D < top) (y : Nat → Nat) (hy : ∀ j, y j < 256) (k : Int) (w : World) (hK : KT w) :
    Calls Tryd.prog 3 #[nv D, .agg (arrOf 32 fun i => .int .u8 (y i : Nat)), .int .i64 k] w fun e w' => e = .returned (.bool true) ∧ Ext w w' := by
  by_cases hb : mayB D = false ∨ k < 0 ∨ 16 < k
  · exact lists_bad D hD y k hb w hK
  · have h1 : mayB D = true := by cases h : mayB D; exact absurd (.inl h) hb; rfl
    have h2 : 0 ≤ k := by by_cases h : k < 0; exact absurd (.inr (.inl h)) hb; omega
    have h3 : k ≤ 16 := by by_cases h : 16 < k; exact absurd (.inr (.inr h)) hb; omega
    obtain ⟨m, rfl⟩ := Int.eq_ofNat_of_zero_le h2
    exact lists_good D hD y hy m (by omega) h1 w hK
end Go.Proofs.YthgenmoiendakaaDoor
