/-
  Slices of days in memory; clapperref12.in, days.
-/
import Derived.Test.YtebcdhfmhnhalaaSva
import Derived.Test.YtebcdhfmhnhalaaLs
namespace Go.Proofs.Ytebcdhfmhnhalaa
open Go.RowKit

def dC (x : Int) : List Value := [.int .i64 x]
/-- v is a slice of the days l. -/
abbrev Ds (w : World) (v : Value) (l : List Int) : Prop := Ls 1 dC w v l
theorem d_cell {w w' : World} {b o i : Nat} {l : List Int} (hE : Ext w w') (hb : b < w.heap.size) (h : ∀ i x, l[i]? = some x → w.rangeAt b (o + i * 1) (dC x)) (hi : i < l.length) : w'.cell? ⟨b, o + i, none⟩ = some (.int .i64 (l.getD i 0)) := by
  have := range_ext hE hb (h i _ (d_get hi)) 0 _ rfl
  simpa using this

set_option maxRecDepth 100000 in
set_option maxHeartbeats 4000000 in
theorem in12_calls (v : Value) (l : List Int) (d : Int) (w : World) (hF : Ds w v l) (hL : l.length ≤ 1000000000) :
    Calls Try.prog 29 #[v, .int .i64 d] w fun e w' => e = .returned (.bool (decide (d ∈ l))) ∧ Ext w w' := by
  obtain ⟨AL, c, rfl, hc, hx⟩ := hF
  obtain ⟨R, hR⟩ : ∃ R, R = decide (d ∈ l) := ⟨_, rfl⟩
  rw [← hR]
  obtain ⟨n, hn⟩ : ∃ n, n = l.length := ⟨_, rfl⟩
  rw [← hn] at hx hc ⊢
  have HR := veil (And.intro hR (And.intro hn hL))
  have HX := veil hx
  have hnL : n ≤ 1000000000 := by omega
  clear hR hx hn hL
  go_enter Try.func29, Try.ntmps29
  go_wp2
  go_loopw [5] (fun v wr => ∃ i : Nat, i ≤ n ∧ v = .int .i64 (i : Int) ∧ (∀ j, j < i → l.getD j 0 ≠ d) ∧ Ext w wr)
    (fun v _ => n - (intOf v).toNat)
  case atStart => exact ⟨0, by omega, rfl, fun j hj => by omega, Ext.refl _⟩
  case round =>
    obtain ⟨i, hi, rfl, hall, hE⟩ := hrel
    by_cases hlt : i < n
    · have hd1 : decide ((i : Int) < (n : Int)) = true := by simp; omega
      have hii : (i : Int) < (n : Int) := by omega
      obtain ⟨b, o, hAL, hb, hcl⟩ := HX.out.resolve_left (by omega)
      have hil : i < l.length := by have := HR.out.2.1; omega
      have c0 := d_cell hE hb hcl hil
      have HK := veil (And.intro hall (And.intro hil hE))
      obtain ⟨k, hk⟩ : ∃ z, z = l.getD i 0 := ⟨_, rfl⟩
      rw [← hk] at c0
      have HV := veil hk
      clear hk hall hcl hb hE hil
      subst hAL
      by_cases g0 : k = d
      · have f1 : (k == d) = true := by simp [g0]
        have e : R = true := HR.out.1.trans (d_is HK.out.2.1 (HV.out.symm.trans g0))
        subst e
        clear g0
        go_wp2
        go_ret
        exact ⟨rfl, HK.out.2.2⟩
      · have f1 : (k == d) = false := by simp [g0]
        have G := veil g0
        clear g0
        go_wp2
        go_roundw
        case rel =>
          refine ⟨i + 1, by omega, by go_num, fun j hj => ?_, HK.out.2.2⟩
          by_cases e : j = i
          · subst e
            rw [← HV.out]
            exact G.out
          · exact HK.out.1 j (by omega)
        case measure => simp [intOf]; omega
    · obtain rfl : i = n := by omega
      have hd1 : decide ((i : Int) < (i : Int)) = false := by simp
      have e : R = false := HR.out.1.trans (d_not (by rw [← HR.out.2.1]; exact hall))
      subst e
      clear hall
      go_wp2
      go_ret
      exact ⟨rfl, hE⟩

set_option maxRecDepth 100000 in
set_option maxHeartbeats 8000000 in
theorem days12_calls (v : Value) (l : List Int) (w : World) (hF : Ds w v l) (hL : l.length ≤ 1000000000) :
    Calls Try.prog 28 #[v] w fun e w' => e = .returned (.bool (daysB l)) ∧ Ext w w' := by
  obtain ⟨AL, c, rfl, hc, hx⟩ := hF
  obtain ⟨R, hR⟩ : ∃ R, R = daysB l := ⟨_, rfl⟩
  rw [← hR]
  obtain ⟨n, hn⟩ : ∃ n, n = l.length := ⟨_, rfl⟩
  rw [← hn] at hx hc ⊢
  have HR := veil (And.intro hR (And.intro hn hL))
  have HX := veil hx
  have hnL : n ≤ 1000000000 := by omega
  clear hR hx hn hL
  go_enter Try.func28, Try.ntmps28
  go_wp2
  go_loopw [3] (fun v wr => ∃ i : Nat, i ≤ n ∧ v = .int .i64 (i : Int) ∧ (∀ j, j < i → okD l j) ∧ Ext w wr)
    (fun v _ => n - (intOf v).toNat)
  case atStart => exact ⟨0, by omega, rfl, fun j hj => by omega, Ext.refl _⟩
  case round =>
    obtain ⟨i, hi, rfl, hall, hE⟩ := hrel
    by_cases hlt : i < n
    · have hd1 : decide ((i : Int) < (n : Int)) = true := by simp; omega
      have hii : (i : Int) < (n : Int) := by omega
      obtain ⟨b, o, hAL, hb, hcl⟩ := HX.out.resolve_left (by omega)
      have hil : i < l.length := by have := HR.out.2.1; omega
      have c0 := d_cell hE hb hcl hil
      have hpc : 0 < i → wr.cell? ⟨b, o + (i - 1), none⟩ = some (.int .i64 (l.getD (i - 1) 0)) := fun h0 => d_cell hE hb hcl (by omega)
      have hfalse : ∀ h : ¬ okD l i, R = false := fun h => HR.out.1.trans (daysB_false hil h)
      have HK := veil (And.intro hall (And.intro hfalse (And.intro hpc hE)))
      obtain ⟨ks, hks⟩ : ∃ z, z = l.getD i 0 := ⟨_, rfl⟩
      rw [← hks] at c0
      have HV := veil hks
      clear hks hil hb hE hall hfalse hpc hcl
      subst hAL
      go_upto_region 4 with (fail)
      by_cases g0 : ks < 0
      · have hd2 : decide (ks < 0) = true := decide_eq_true g0
        have e : R = false := HK.out.2.1 fun h => by have h1 := h.1; rw [← HV.out] at h1; omega
        subst e
        go_quiet (fail)
        go_wp2
        go_ret
        exact ⟨rfl, HK.out.2.2.2.trans (Ext.drewK _ _)⟩
      · have hd2 : decide (ks < 0) = false := decide_eq_false g0
        by_cases g1 : 1048576 < ks
        · have hd3 : decide (1048576 < ks) = true := decide_eq_true g1
          have e : R = false := HK.out.2.1 fun h => by have h1 := h.2.1; rw [← HV.out] at h1; omega
          subst e
          go_quiet (fail)
          go_wp2
          go_ret
          exact ⟨rfl, HK.out.2.2.2.trans (Ext.drewK _ _)⟩
        · have hd3 : decide (1048576 < ks) = false := decide_eq_false g1
          by_cases g7 : i = 0
          · have hd9 : decide (0 < i) = false := by simp; omega
            have hd9' : decide ((0 : Int) < (i : Int)) = false := by simp; omega
            have G := veil g7
            clear g7
            go_quiet (fail)
            go_wp2
            go_roundw
            case rel =>
              refine ⟨i + 1, by omega, by go_num, fun j hj => ?_, HK.out.2.2.2.trans (Ext.drewK _ _)⟩
              obtain rfl : j = i := by have := G.out; omega
              unfold okD
              rw [← HV.out]
              exact ⟨by omega, by omega, fun h => absurd h (by have := G.out; omega)⟩
            case measure => simp [intOf]; omega
          · have hd9 : decide (0 < i) = true := by simp; omega
            have hd9' : decide ((0 : Int) < (i : Int)) = true := by simp; omega
            have cp := HK.out.2.2.1 (by omega)
            obtain ⟨z, hz⟩ : ∃ z, z = l.getD (i - 1) 0 := ⟨_, rfl⟩
            rw [← hz] at cp
            have hki2 : (i : Int) - 1 = ((i - 1 : Nat) : Int) := by omega
            obtain ⟨m, hm⟩ : ∃ m, m = i - 1 := ⟨_, rfl⟩
            rw [← hm] at cp hki2
            have hmn : (m : Int) < (n : Int) := by omega
            have HZ := veil (And.intro hz hm)
            clear hz hm
            by_cases g8 : ks ≤ z
            · have hd10 : decide (ks ≤ z) = true := decide_eq_true g8
              have e : R = false := HK.out.2.1 fun h => by
                have h1 := h.2.2 (by omega)
                rw [← HV.out, ← HZ.out.1] at h1
                omega
              subst e
              go_quiet (fail)
              go_wp2
              go_ret
              exact ⟨rfl, HK.out.2.2.2.trans (Ext.drewK _ _)⟩
            · have hd10 : decide (ks ≤ z) = false := decide_eq_false g8
              go_quiet (fail)
              go_wp2
              go_roundw
              case rel =>
                refine ⟨i + 1, by omega, by go_num, fun j hj => ?_, HK.out.2.2.2.trans (Ext.drewK _ _)⟩
                by_cases e : j = i
                · subst e
                  unfold okD
                  rw [← HV.out, ← HZ.out.1]
                  exact ⟨by omega, by omega, fun _ => by omega⟩
                · exact HK.out.1 j (by omega)
              case measure => simp [intOf]; omega
    · obtain rfl : i = n := by omega
      have hd1 : decide ((i : Int) < (i : Int)) = false := by simp
      have e : R = decide ((i : Int) ≤ 100) := by
        rw [HR.out.1, daysB_len (by rw [← HR.out.2.1]; exact hall), ← HR.out.2.1]
        by_cases h : i ≤ 100
        · rw [decide_eq_true h, decide_eq_true (by omega)]
        · rw [decide_eq_false h, decide_eq_false (by omega)]
      have HE := veil e
      clear hall e
      go_wp2
      go_ret
      exact ⟨by rw [HE.out]; rfl, hE⟩
end Go.Proofs.Ytebcdhfmhnhalaa
