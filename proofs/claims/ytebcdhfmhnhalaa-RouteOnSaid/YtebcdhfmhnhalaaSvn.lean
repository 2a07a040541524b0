/-
  service.has, mayDays, nextExtra, share: the landed package's own.
-/
import Derived.Test.YtebcdhfmhnhalaaSvm
namespace Go.Proofs.Ytebcdhfmhnhalaa
open Go.RowKit

set_option maxRecDepth 100000 in
set_option maxHeartbeats 2000000 in
theorem has12_calls (v : Value) (l : List Int) (d : Int) (w : World) (hF : Ds w v l) (hL : l.length ≤ 1000000000) (hr : riseD l) :
    Calls Try.prog 38 #[v, .int .i64 d] w fun e w' => e = .returned (.bool (decide (d ∈ l))) ∧ w' = w := by
  have K := veil (search_calls v l d w hF hL hr)
  obtain ⟨R, hR⟩ : ∃ R, R = decide (d ∈ l) := ⟨_, rfl⟩
  rw [← hR] at K ⊢
  clear hR hF hL hr
  go_enter Try.func38, Try.ntmps38
  go_wp2_with (go_at_call 52; refine K.out.mono ?_; rintro e w' ⟨i, rfl, rfl, _⟩)
  go_ret
  exact ⟨rfl, rfl⟩

/-- The day ahead of place i; -1: there is none. -/
def lastD (l : List Int) (i : Nat) : Int := if i = 0 then -1 else l.getD (i - 1) 0
theorem okD_no {l : List Int} {i : Nat} (h : l.getD i 0 ≤ lastD l i) : ¬ okD l i := fun k => by
  unfold lastD at h
  obtain ⟨k1, _, k3⟩ := k
  split at h
  · omega
  · have := k3 (by omega)
    omega
theorem okD_yes {l : List Int} {i : Nat} (hall : ∀ j, j < i → okD l j) (h : ¬ l.getD i 0 ≤ lastD l i) (h2 : ¬ 1048576 < l.getD i 0) : okD l i := by
  unfold lastD at h
  split at h
  · exact ⟨by omega, by omega, fun _ => by omega⟩
  · have := (hall (i - 1) (by omega)).1
    exact ⟨by omega, by omega, fun _ => by omega⟩

set_option maxRecDepth 100000 in
set_option maxHeartbeats 8000000 in
theorem mayDays_calls (v : Value) (l : List Int) (w : World) (hF : Ds w v l) (hL : l.length ≤ 1000000000) :
    Calls Try.prog 36 #[v] w fun e w' => e = .returned (.bool (daysB l)) ∧ w' = w := by
  obtain ⟨AL, c, rfl, hc, hx⟩ := hF
  obtain ⟨R, hR⟩ : ∃ R, R = daysB l := ⟨_, rfl⟩
  rw [← hR]
  obtain ⟨n, hn⟩ : ∃ n, n = l.length := ⟨_, rfl⟩
  rw [← hn] at hx hc ⊢
  have HR := veil (And.intro hR (And.intro hn hL))
  have HX := veil hx
  have hnL : n ≤ 1000000000 := by omega
  clear hR hx hn hL
  by_cases g0 : n ≤ 100
  rotate_left
  · have hd0 : decide ((100 : Int) < (n : Int)) = true := by simp; omega
    obtain rfl : R = false := HR.out.1.trans (daysB_long (by rw [← HR.out.2.1]; exact g0))
    go_enter Try.func36, Try.ntmps36
    go_wp2
    go_ret
    exact ⟨rfl, rfl⟩
  have hd0 : decide ((100 : Int) < (n : Int)) = false := by simp; omega
  have HG := veil g0
  clear g0
  go_enter Try.func36, Try.ntmps36
  go_wp2
  go_loopw [3, 5, 11] (fun u _ v wr => ∃ i : Nat, i ≤ n ∧ v = .int .i64 (i : Int) ∧ u = .int .i64 (lastD l i) ∧ (∀ j, j < i → okD l j) ∧ wr = w)
    (fun _ _ v _ => n - (intOf v).toNat)
  case atStart => exact ⟨0, by omega, rfl, rfl, fun j hj => by omega, rfl⟩
  case round =>
    obtain ⟨i, hi, rfl, rfl, hall, rfl⟩ := hrel
    by_cases hlt : i < n
    · have hd1 : decide ((i : Int) < (n : Int)) = true := by simp; omega
      have hii : (i : Int) < (n : Int) := by omega
      obtain ⟨b, o, hAL, hb, hcl⟩ := HX.out.resolve_left (by omega)
      have hil : i < l.length := by have := HR.out.2.1; omega
      have c0 := d_cell (Ext.refl _) hb hcl hil
      have HK := veil (And.intro hall hil)
      have HF := veil (fun h : ¬ okD l i => HR.out.1.trans (daysB_false hil h))
      obtain ⟨k, hk⟩ : ∃ z, z = l.getD i 0 := ⟨_, rfl⟩
      obtain ⟨y, hy⟩ : ∃ z, z = lastD l i := ⟨_, rfl⟩
      rw [← hk] at c0
      rw [← hy]
      have HV := veil (And.intro hk hy)
      subst hAL
      clear hk hy hall hcl hb hil
      by_cases g1 : k ≤ y
      · have hd2 : decide (k ≤ y) = true := decide_eq_true g1
        obtain rfl : R = false := HF.out (okD_no (by rw [← HV.out.1, ← HV.out.2]; exact g1))
        go_wp2
        go_ret
        exact ⟨rfl, rfl⟩
      · have hd2 : decide (k ≤ y) = false := decide_eq_false g1
        by_cases g2 : 1048576 < k
        · have hd3 : decide (1048576 < k) = true := decide_eq_true g2
          obtain rfl : R = false := HF.out fun h => by have := h.2.1; rw [← HV.out.1] at this; omega
          go_wp2
          go_ret
          exact ⟨rfl, rfl⟩
        · have hd3 : decide (1048576 < k) = false := decide_eq_false g2
          have HO := veil (okD_yes HK.out.1 (by rw [← HV.out.1, ← HV.out.2]; exact g1) (by rw [← HV.out.1]; exact g2))
          clear g1 g2
          go_wp2
          go_roundw
          case rel =>
            refine ⟨i + 1, by omega, by go_num, by rw [HV.out.1]; rfl, fun j hj => ?_, trivial⟩
            by_cases e : j = i
            · subst e; exact HO.out
            · exact HK.out.1 j (by omega)
          case measure => simp [intOf]; omega
    · obtain rfl : i = n := by omega
      have hd1 : decide ((i : Int) < (i : Int)) = false := by simp
      obtain rfl : R = true := HR.out.1.trans (by rw [daysB_len (by rw [← HR.out.2.1]; exact hall), ← HR.out.2.1]; exact decide_eq_true HG.out)
      clear hall
      go_wp2
      go_ret
      exact ⟨rfl, rfl⟩

/-- The closure of share: is a day among those that block g's slice holds? -/
theorem sharef_calls (g : Nat) (v : Value) (l : List Int) (d : Int) (w : World) (hF : Ds w v l) (hg : w.cell? ⟨g, 0, none⟩ = some v) (hL : l.length ≤ 1000000000) (hr : riseD l) :
    Calls Try.prog 51 #[.int .i64 d, .pointer (some ⟨g, 0, none⟩)] w fun e w' => e = .returned (.bool (decide (d ∈ l))) ∧ w' = w := by
  have K := veil (has12_calls v l d w hF hL hr)
  obtain ⟨R, hR⟩ : ∃ R, R = decide (d ∈ l) := ⟨_, rfl⟩
  rw [← hR] at K ⊢
  obtain ⟨AL, c, rfl, hc, hx⟩ := hF
  obtain ⟨n, hn⟩ : ∃ n, n = l.length := ⟨_, rfl⟩
  rw [← hn] at hg K
  clear hR hL hr hx hc hn
  go_enter Try.func51, Try.ntmps51
  go_wp2_with (go_at_call 38; refine K.out.mono ?_; rintro e w' ⟨rfl, rfl⟩)
  go_ret
  exact ⟨rfl, rfl⟩

theorem farB_eq {a b : List Int} : farB a b = !a.any fun d => decide (d ∈ b) := by
  unfold farB
  rw [Bool.eq_iff_iff, Bool.not_eq_true', ← Bool.not_eq_true, List.any_eq_true, decide_eq_true_eq]
  constructor
  · rintro h ⟨x, hx, hy⟩
    obtain ⟨i, hi, rfl⟩ := d_idx hx
    exact h i hi (of_decide_eq_true hy)
  · intro h i hi hm
    exact h ⟨_, d_mem hi, decide_eq_true hm⟩

set_option maxRecDepth 100000 in
set_option maxHeartbeats 4000000 in
theorem indexf12_calls (v u : Value) (l m : List Int) (g : Nat) (w : World) (hF : Ds w v l) (hL : l.length ≤ 1000000000) (hG : Ds w u m) (hg : w.cell? ⟨g, 0, none⟩ = some u) (hM : m.length ≤ 1000000000) (hr : riseD m) :
    Calls Try.prog 58 #[v, .func (.func 51) #[] #[.pointer (some ⟨g, 0, none⟩)]] w fun e w' => ∃ z : Int, e = .returned (.int .i64 z) ∧ decide (0 ≤ z) = l.any (fun d => decide (d ∈ m)) ∧ w' = w := by
  have KO := veil (fun d => sharef_calls g u m d w hG hg hM hr)
  obtain ⟨AL, c, rfl, hc, hx⟩ := hF
  obtain ⟨n, hn⟩ : ∃ n, n = l.length := ⟨_, rfl⟩
  rw [← hn] at hx hc hL ⊢
  obtain ⟨R, hR⟩ : ∃ R, R = l.any (fun d => decide (d ∈ m)) := ⟨_, rfl⟩
  rw [← hR]
  have HR := veil (And.intro hR hn)
  have HX := veil hx
  clear hR hx hn hG hg hM hr
  go_enter Try.func58, Try.ntmps58
  go_wp2
  go_loopw [5, 8] (fun _ v wr => ∃ i : Nat, i ≤ n ∧ v = .int .i64 (i : Int) ∧ (∀ j, j < i → l.getD j 0 ∉ m) ∧ wr = w)
    (fun _ v _ => n - (intOf v).toNat)
  case atStart => exact ⟨0, by omega, rfl, fun j hj => by omega, rfl⟩
  case round =>
    obtain ⟨i, hi, rfl, hall, rfl⟩ := hrel
    by_cases hlt : i < n
    · have hd1 : decide ((i : Int) < (n : Int)) = true := by simp; omega
      have hii : (i : Int) < (n : Int) := by omega
      obtain ⟨b, o, hAL, hb, hcl⟩ := HX.out.resolve_left (by omega)
      have hil : i < l.length := by have := HR.out.2; omega
      have c0 := d_cell (Ext.refl _) hb hcl hil
      have hmem : l.getD i 0 ∈ l := d_mem hil
      obtain ⟨k, hk⟩ : ∃ k, k = l.getD i 0 := ⟨_, rfl⟩
      rw [← hk] at c0 hmem
      have KO1 := veil (KO.out k)
      cases ho : decide (k ∈ m) with
      | true =>
        rw [ho] at KO1
        obtain rfl : R = true := by
          rw [HR.out.1, List.any_eq_true]
          exact ⟨k, hmem, ho⟩
        clear hmem ho hk hil hcl hall
        subst hAL
        go_wp2_with (go_at_call 51; refine KO1.out.mono ?_; rintro e w1 ⟨rfl, rfl⟩)
        go_ret
        exact ⟨(i : Int), rfl, by simp, rfl⟩
      | false =>
        rw [ho] at KO1
        have hnext : ∀ j, j < i + 1 → l.getD j 0 ∉ m := fun j hj => by
          by_cases e : j = i
          · subst e
            rw [← hk]
            exact of_decide_eq_false ho
          · exact hall j (by omega)
        have HN := veil hnext
        clear hmem ho hk hil hcl hall hnext
        subst hAL
        go_wp2_with (go_at_call 51; refine KO1.out.mono ?_; rintro e w1 ⟨rfl, rfl⟩)
        go_roundw
        case rel => exact ⟨i + 1, by omega, by go_num, HN.out, trivial⟩
        case measure => simp [intOf]; omega
    · obtain rfl : i = n := by omega
      have hd1 : decide ((i : Int) < (i : Int)) = false := by simp
      obtain rfl : R = false := by
        rw [HR.out.1, List.any_eq_false]
        intro k hk
        obtain ⟨j, hj, rfl⟩ := d_idx hk
        have := hall j (by have := HR.out.2; omega)
        simpa using this
      clear hall
      go_wp2
      go_ret
      exact ⟨-1, rfl, by decide, rfl⟩

set_option maxRecDepth 100000 in
set_option maxHeartbeats 4000000 in
theorem containsf12_calls (v u : Value) (l m : List Int) (g : Nat) (w : World) (hF : Ds w v l) (hL : l.length ≤ 1000000000) (hG : Ds w u m) (hg : w.cell? ⟨g, 0, none⟩ = some u) (hM : m.length ≤ 1000000000) (hr : riseD m) :
    Calls Try.prog 50 #[v, .func (.func 51) #[] #[.pointer (some ⟨g, 0, none⟩)]] w fun e w' => e = .returned (.bool (l.any fun d => decide (d ∈ m))) ∧ w' = w := by
  have KI := veil (indexf12_calls v u l m g w hF hL hG hg hM hr)
  obtain ⟨R, hR⟩ : ∃ R, R = l.any fun d => decide (d ∈ m) := ⟨_, rfl⟩
  rw [← hR] at KI ⊢
  clear hF hL hR hG hg hM hr
  go_enter Try.func50, Try.ntmps50
  go_wp2_with (go_at_call 58; refine KI.out.mono ?_; rintro e w1 ⟨z, rfl, hz, rfl⟩)
  go_ret
  exact ⟨by first | rfl | rw [hz], rfl⟩

set_option maxRecDepth 100000 in
set_option maxHeartbeats 4000000 in
theorem share_calls (v u : Value) (l m : List Int) (w : World) (hF : Ds w v l) (hL : l.length ≤ 1000000000) (hG : Ds w u m) (hM : m.length ≤ 1000000000) (hr : riseD m) :
    Calls Try.prog 37 #[v, u] w fun e w' => e = .returned (.bool (!farB l m)) ∧ Ext w w' := by
  have K := veil (fun g W (hE : Ext w W) hg => containsf12_calls v u l m g W (hF.ext hE) hL (hG.ext hE) hg hM hr)
  rw [show (!farB l m) = l.any (fun d => decide (d ∈ m)) by rw [farB_eq, Bool.not_not]]
  obtain ⟨R, hR⟩ : ∃ R, R = l.any fun d => decide (d ∈ m) := ⟨_, rfl⟩
  rw [← hR] at K ⊢
  obtain ⟨AL, c, rfl, hc, hx⟩ := hF
  obtain ⟨AM, cm, rfl, hcm, hxm⟩ := hG
  obtain ⟨n, hn⟩ : ∃ n, n = l.length := ⟨_, rfl⟩
  obtain ⟨n2, hn2⟩ : ∃ n, n = m.length := ⟨_, rfl⟩
  rw [← hn, ← hn2] at K ⊢
  have h0 := heap_new w (.cells #[.slice AM n2 cm] 41)
  have hE0 := veil (Ext.alloc w (.cells #[.slice AM n2 cm] 41))
  have H0 := veil (show (w.alloc (.cells #[.slice AM n2 cm] 41)).cell? ⟨w.heap.size, 0, none⟩ = some (.slice AM n2 cm) from cell_of_row _ _ 0 _ _ _ h0)
  clear hR hL hM hr hx hc hn hcm hxm hn2 h0
  go_enter Try.func37, Try.ntmps37
  go_wp2_with (go_at_call 50; refine (K.out _ _ hE0.out H0.out).mono ?_; rintro e w1 ⟨rfl, rfl⟩)
  go_ret
  exact ⟨rfl, hE0.out⟩
end Go.Proofs.Ytebcdhfmhnhalaa
