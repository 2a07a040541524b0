/-
  clapperlaw06.NonceMore: fewer candidates are the first ones of more.
-/
import Derived.BigQuiet
import Derived.Test.YthgenmoiendakaaDoorZ10
namespace Go.Proofs.YthgenmoiendakaaDoor
open Go.RowKit

/-- Whatever it is asked: an error and nothing, or so many candidates. -/
def Ans (D M : Nat) (k : Int) (W : World) (base : Nat) (v ev : Value) : Prop :=
  (v = .slice none 0 0 ∧ (∃ c, ev = .iface 34 (.int .i64 c)) ∧ (mayB D = true → ∀ m : Nat, k = (m : Int) → m ≤ 16 → ∃ s, Ends D M m s ∧ (outN D M s).length < m)) ∨ (∃ m s : Nat, k = (m : Int) ∧ m ≤ 16 ∧ mayB D = true ∧ Ends D M m s ∧ ¬ (outN D M s).length < m ∧ ev = .nilIface ∧ OwnN W base v (outN D M s))
theorem list_any (D : Nat) (hD : D < top) (y : Nat → Nat) (hy : ∀ j, y j < 256) (k : Int) (w : World) (hK : KT w) :
    Calls Tryd.prog 6 #[nv D, .agg (arrOf 32 fun i => .int .u8 (y i : Nat)), .int .i64 k] w fun e w' => ∃ v ev, e = .returned (.tuple #[v, ev]) ∧ Ans D (num32 y % Pt.nn) k w' w.heap.size v ev ∧ Ext w w' := by
  by_cases hb : mayB D = false ∨ k < 0 ∨ 16 < k
  · exact (list_bad D hD y k hb w).mono fun e w' ⟨he, hE⟩ => ⟨_, _, he, .inl ⟨rfl, ⟨_, rfl⟩, fun h1 m h2 h3 => by
      rcases hb with h | h | h
      · rw [h1] at h; cases h
      · omega
      · omega⟩, hE⟩
  · have h1 : mayB D = true := by cases h : mayB D; exact absurd (.inl h) hb; rfl
    have h2 : 0 ≤ k := by by_cases h : k < 0; exact absurd (.inr (.inl h)) hb; omega
    have h3 : k ≤ 16 := by by_cases h : 16 < k; exact absurd (.inr (.inr h)) hb; omega
    obtain ⟨m, rfl⟩ := Int.eq_ofNat_of_zero_le h2
    refine (list_good D hD y hy m (by omega) h1 w hK).mono ?_
    rintro e w' ⟨v, ev, rfl, ⟨s, hE, h⟩, hX⟩
    rcases h with ⟨hn, rfl, hO⟩ | ⟨hn, rfl, rfl⟩
    · exact ⟨_, _, rfl, .inr ⟨m, s, rfl, by omega, h1, hE, hn, rfl, hO⟩, hX⟩
    · exact ⟨_, _, rfl, .inl ⟨rfl, ⟨_, rfl⟩, fun _ m' h2 _ => by
        obtain rfl : m = m' := by omega
        exact ⟨s, hE, hn⟩⟩, hX⟩
theorem Ext.drewN (w : World) (k : Nat) : Ext w (w.drewN k) := ⟨rfl, rfl, rfl, Nat.le_refl _, fun _ _ => rfl⟩
theorem World.rangeAt_ext {w w' : World} {g o : Nat} {cs : List Value} (h : w.rangeAt g o cs) (k : Ext w w') : w'.rangeAt g o cs := fun j v hv => (Below.cell k (p := ⟨g, o + j, none⟩) (World.block_lt_of_cell? w _ (h j v hv))).trans (h j v hv)
set_option maxRecDepth 100000 in
set_option maxHeartbeats 8000000 in
theorem more_walk (D : Nat) (hD : D < top) (y : Nat → Nat) (hy : ∀ j, y j < 256) (k f : Int) (w : World) (hK : KT w) :
    Calls Tryd.prog 4 #[nv D, .agg (arrOf 32 fun i => .int .u8 (y i : Nat)), .int .i64 k, .int .i64 f] w fun e w' => e = .returned (.bool true) ∧ Ext w w' := by
  obtain ⟨M, hM⟩ : ∃ M, M = num32 y % Pt.nn := ⟨_, rfl⟩
  have KL := veil (fun W hK => list_any D hD y hy k W hK)
  have KF := veil (fun W hK => list_any D hD y hy f W hK)
  rw [← hM] at KL KF
  obtain ⟨F, hF⟩ : ∃ F, F = arrOf 32 fun i => Value.int .u8 (y i : Nat) := ⟨_, rfl⟩
  rw [← hF] at KL KF ⊢
  have HF := veil (show F.size = 32 ∧ (Tryd.prog.info? 26).map (·.size) = some F.size from by rw [hF, arrOf_size]; exact ⟨rfl, infoD⟩)
  have HK := veil hK
  clear hF hM hD hK hy
  obtain ⟨C, hC⟩ : ∃ C, C = nc D := ⟨_, rfl⟩
  rw [show nv D = .agg C from by rw [hC]; rfl] at KL KF ⊢
  have HC := veil (show (Tryd.prog.info? 24).map (·.size) = some C.size from by rw [hC]; exact iN D)
  clear hC
  go_enter Tryd.func4, Tryd.ntmps4
  go_upto_region 1 with (fail)
  have hc1 : (w.alloc (.cells C 24)).heap[w.heap.size]? = some (.cells C 24 (0, 0)) := heap_alloc_last w _
  have hz1 : (w.alloc (.cells C 24)).heap.size = w.heap.size + 1 := by simp
  have hE1 := Ext.alloc w (.cells C 24)
  generalize w.alloc (.cells C 24) = w1 at *
  have hf2 : (w1.alloc (.cells F 26)).heap[w.heap.size + 1]? = some (.cells F 26 (0, 0)) := by rw [← hz1]; exact heap_alloc_last w1 _
  have hc2 := (Ext.alloc w1 (.cells F 26)).block hc1
  have hE2 := hE1.trans (Ext.alloc w1 (.cells F 26))
  generalize w1.alloc (.cells F 26) = w2 at *
  have H2 := veil (And.intro hc2 (And.intro hf2 (And.intro hE2 (HK.out.call hE2))))
  clear hc1 hz1 hE1 hf2 hc2 hE2 HK
  have KU := veil (up6_calls w2 H2.out.2.2.2)
  go_upto_region 2 with (go_at_call 5; refine KU.out.mono ?_; rintro e w3 ⟨rfl, hE3⟩)
  have H3 := veil (And.intro (hE3.block H2.out.1) (And.intro (hE3.block H2.out.2.1) (And.intro (H2.out.2.2.1.trans hE3) (H2.out.2.2.2.call hE3))))
  clear H2 hE3 KU
  go_upto_region 3 with (first
    | ((with_reducible refine at_slot 18 ?_); refine wpList_load_row rfl 24 _ rfl w.heap.size rfl 24 C (0, 0) _ H3.out.1 Tryd.underlying24 rfl HC.out ?_)
    | ((with_reducible refine at_slot 19 ?_); refine wpList_load_row rfl 26 _ rfl (w.heap.size + 1) rfl 26 F (0, 0) _ H3.out.2.1 Tryd.underlying26 rfl HF.out.2 ?_)
    | (go_at_call 6; refine (KL.out _ H3.out.2.2.2).mono ?_; rintro e w4 ⟨v, ev, rfl, hR, hE4⟩))
  have H4 := veil (And.intro (hE4.block H3.out.1) (And.intro (hE4.block H3.out.2.1) (And.intro (H3.out.2.2.1.trans hE4) (H3.out.2.2.2.call hE4))))
  clear H3 hE4 KL
  rcases hR with ⟨rfl, ⟨c, rfl⟩, _⟩ | ⟨m, s, rfl, hm, hmay, hEn, hfull, rfl, hO⟩
  · go_wp2
    go_ret
    exact ⟨rfl, H4.out.2.2.1⟩
  · by_cases hf0 : f < 0
    · have hd : decide (f < 0) = true := decide_eq_true hf0
      go_wp2
      go_ret
      exact ⟨rfl, H4.out.2.2.1⟩
    · have hd : decide (f < 0) = false := decide_eq_false hf0
      by_cases hfm : (m : Int) < f
      · have hd2 : decide ((m : Int) < f) = true := decide_eq_true hfm
        go_wp2
        go_ret
        exact ⟨rfl, H4.out.2.2.1⟩
      · have hd2 : decide ((m : Int) < f) = false := decide_eq_false hfm
        obtain ⟨q, rfl⟩ := Int.eq_ofNat_of_zero_le (show 0 ≤ f by omega)
        have hqm : q ≤ m := by omega
        have HE := veil (And.intro hm (And.intro hmay (And.intro hEn (And.intro hfull hqm))))
        have HO := veil hO
        obtain ⟨A, c, rfl, _⟩ := hO.form
        rw [hEn.full hfull] at hO
        rw [hEn.full hfull]
        have hd3 : decide (m < q) = false := decide_eq_false (by omega)
        clear hO hm hmay hEn hfull hqm hf0 hfm hd2
        go_upto_region 6 with (first
          | ((with_reducible refine at_slot 46 ?_); refine wpList_load_row rfl 24 _ rfl w.heap.size rfl 24 C (0, 0) _ H4.out.1 Tryd.underlying24 rfl HC.out ?_)
          | ((with_reducible refine at_slot 47 ?_); refine wpList_load_row rfl 26 _ rfl (w.heap.size + 1) rfl 26 F (0, 0) _ H4.out.2.1 Tryd.underlying26 rfl HF.out.2 ?_)
          | (go_at_call 6; refine (KF.out _ H4.out.2.2.2).mono ?_; rintro e w5 ⟨v2, ev2, rfl, hR, hE5⟩))
        obtain ⟨s2, hE2, hfull2, hev, hO2⟩ : ∃ s2, Ends D M q s2 ∧ ¬ (outN D M s2).length < q ∧ ev2 = .nilIface ∧ OwnN w5 w4.heap.size v2 (outN D M s2) := by
          rcases hR with ⟨_, _, h⟩ | ⟨m', s', hk, _, _, hE', hf', he', ho'⟩
          · obtain ⟨s', hE', hl'⟩ := h HE.out.2.1 q rfl (by have := HE.out.1; have := HE.out.2.2.2.2; omega)
            exact absurd hl' (HE.out.2.2.1.enough hE' HE.out.2.2.2.2 HE.out.2.2.2.1)
          · obtain rfl : q = m' := by omega
            exact ⟨s', hE', hf', he', ho'⟩
        subst hev
        obtain ⟨A2, c2, rfl, _⟩ := hO2.form
        have hl2 := hE2.full hfull2
        obtain ⟨r, hr⟩ := outN_mono D M s2 s (HE.out.2.2.1.fewer hE2 HE.out.2.2.2.2)
        have hl := HE.out.2.2.1.full HE.out.2.2.2.1
        have hmx := outN_may D M s
        have hO := HO.out.ext hE5
        have hE := H4.out.2.2.1.trans hE5
        rw [hl2] at hO2 ⊢
        rw [hl] at hO
        have hqm := HE.out.2.2.2.2
        have hm16 : m ≤ 16 := HE.out.1
        clear hR HO H4 HE hE2 hfull2 hE5 KF
        generalize outN D M s2 = ys at *
        generalize outN D M s = xs at *
        have HL := veil (And.intro hl (And.intro hl2 (And.intro hr (And.intro hmx (And.intro hE hqm)))))
        have HO := veil (And.intro hO hO2)
        clear hl hl2 hr hmx hE hO hO2 hqm
        go_upto_region 9 with (fail)
        go_loopw [14] (fun v wr => ∃ i : Nat, i ≤ m ∧ v = .int .i64 (i : Int) ∧ Ext w5 wr)
          (fun v _ => m - (intOf v).toNat)
        case atStart => exact ⟨0, by omega, rfl, Ext.refl _⟩
        case round =>
          obtain ⟨i, hi, rfl, hE⟩ := hrel
          by_cases hlt : i < m
          · have hlx : i < xs.length := by rw [HL.out.1]; exact hlt
            obtain ⟨g, cap, hv, _, _, hr⟩ := (HO.out.1.ext hE).at (i := i) hlx
            injection hv with hA hA1 hA2
            subst hA
            clear hA1 hA2
            have hXm := HL.out.2.2.2.1 _ (List.getElem_mem hlx)
            have hXe : xs[i]? = some (xs[i]'hlx) := List.getElem?_eq_getElem hlx
            generalize xs[i]'hlx = X at *
            have KM := veil (may_calls X hXm.2 wr)
            rw [hXm.1] at KM
            have HX := veil (And.intro hXe hXm.2)
            have HR := veil hr
            clear hXe hXm hr
            go_upto_region 12 with (first
              | ((with_reducible refine at_slot 75 ?_); refine wpList_load_mid rfl 24 _ rfl g (i * 4) rfl (nc X).toList _ HR.out uN rfl (iN X) ?_)
              | (go_at_call 7; refine KM.out.mono ?_; rintro e w6 ⟨rfl, hE6⟩))
            by_cases hq : i < q
            · have hd4 : decide (i < q) = true := decide_eq_true hq
              have hly : i < ys.length := by rw [HL.out.2.1]; exact hq
              obtain ⟨g2, cap2, hv, _, _, hr2⟩ := ((HO.out.2.ext hE).ext hE6).at (i := i) hly
              injection hv with hA hA1 hA2
              subst hA
              clear hA1 hA2
              have hYX : ys[i]'hly = X := by
                have h1 := HX.out.1
                rw [HL.out.2.2.1, List.getElem?_append_left hly, List.getElem?_eq_getElem hly] at h1
                exact Option.some.inj h1
              rw [hYX] at hr2
              have hr1 := World.rangeAt_ext HR.out hE6
              have c0 : w6.cell? ⟨g, i * 4, none⟩ = some (.int .u64 (wd X 0)) := hr1 0 _ rfl
              have c1 : w6.cell? ⟨g, i * 4 + 1, none⟩ = some (.int .u64 (wd X 1)) := hr1 1 _ rfl
              have c2 : w6.cell? ⟨g, i * 4 + 2, none⟩ = some (.int .u64 (wd X 2)) := hr1 2 _ rfl
              have c3 : w6.cell? ⟨g, i * 4 + 3, none⟩ = some (.int .u64 (wd X 3)) := hr1 3 _ rfl
              have d0 : w6.cell? ⟨g2, i * 4, none⟩ = some (.int .u64 (wd X 0)) := hr2 0 _ rfl
              have d1 : w6.cell? ⟨g2, i * 4 + 1, none⟩ = some (.int .u64 (wd X 1)) := hr2 1 _ rfl
              have d2 : w6.cell? ⟨g2, i * 4 + 2, none⟩ = some (.int .u64 (wd X 2)) := hr2 2 _ rfl
              have d3 : w6.cell? ⟨g2, i * 4 + 3, none⟩ = some (.int .u64 (wd X 3)) := hr2 3 _ rfl
              have he : ∀ W : World, (binOp .neq 24 (.agg #[.int .u64 (wd (X) 0), .int .u64 (wd (X) 1), .int .u64 (wd (X) 2), .int .u64 (wd (X) 3)]) (.agg #[.int .u64 (wd (X) 0), .int .u64 (wd (X) 1), .int .u64 (wd (X) 2), .int .u64 (wd (X) 3)])).run Tryd.prog W = .ok (.bool false) W := fun W => neN (X := X) W
              simp only [run_neq_struct] at he
              clear hr1 hr2 hYX KM HR
              go_quiet (fail)
              go_wp2
              go_roundw
              case rel => exact ⟨i + 1, by omega, by go_num, hE.trans (hE6.trans (Ext.drewN _ _))⟩
              case measure => simp [intOf]; omega
            · have hd4 : decide (i < q) = false := decide_eq_false hq
              clear KM HR
              go_quiet (fail)
              go_wp2
              go_roundw
              case rel => exact ⟨i + 1, by omega, by go_num, hE.trans (hE6.trans (Ext.drewN _ _))⟩
              case measure => simp [intOf]; omega
          · obtain rfl : i = m := by omega
            go_wp2
            go_ret
            exact ⟨rfl, HL.out.2.2.2.2.1.trans hE⟩
end Go.Proofs.YthgenmoiendakaaDoor
