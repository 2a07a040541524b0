/-
  Rising days; slices.BinarySearch of them.
-/
import Derived.Test.YtebcdhfmhnhalaaSvb
namespace Go.Proofs.Ytebcdhfmhnhalaa
open Go.RowKit

/-- Rising, each once. -/
def riseD (l : List Int) : Prop := ∀ i j, i < j → j < l.length → l.getD i 0 < l.getD j 0
theorem rise_of {l : List Int} (h : daysB l = true) : riseD l := by
  intro i j
  induction j with
  | zero => intro h1; omega
  | succ j ih =>
    intro h1 h2
    have h3 := (daysB_ok h h2).2.2 (by omega)
    rw [Nat.add_sub_cancel] at h3
    by_cases c : i = j
    · rw [c]; exact h3
    · have := ih (by omega) (by omega)
      omega
/-- As many as are below x stand ahead of place i. -/
def AtD (l : List Int) (x : Int) (i : Nat) : Prop := i ≤ l.length ∧ (∀ j, j < i → l.getD j 0 < x) ∧ (∀ j, i ≤ j → j < l.length → x ≤ l.getD j 0)
theorem at_end {l : List Int} {x : Int} {i : Nat} (h : AtD l x i) (hi : i = l.length) : decide (x ∈ l) = false := d_not fun j hj e => by
  have := h.2.1 j (by omega)
  omega
theorem at_yes {l : List Int} {x : Int} {i : Nat} (_ : AtD l x i) (hi : i < l.length) (e : l.getD i 0 = x) : decide (x ∈ l) = true := d_is hi e
theorem at_no {l : List Int} {x : Int} {i : Nat} (hr : riseD l) (h : AtD l x i) (hi : i < l.length) (e : ¬ l.getD i 0 = x) : decide (x ∈ l) = false := d_not fun j hj k => by
  by_cases c : j < i
  · have := h.2.1 j c
    omega
  · have h1 := h.2.2 i (by omega) hi
    by_cases c2 : j = i
    · subst c2; exact e k
    · have := hr i j (by omega) hj
      omega
theorem below_of {l : List Int} {x : Int} {h : Nat} (hr : riseD l) (hh : h < l.length) (k : l.getD h 0 < x) : ∀ j, j < h + 1 → l.getD j 0 < x := fun j hj => by
  by_cases c : j = h
  · subst c; exact k
  · have := hr j h (by omega) hh
    omega
theorem above_of {l : List Int} {x : Int} {h : Nat} (hr : riseD l) (k : ¬ l.getD h 0 < x) : ∀ j, h ≤ j → j < l.length → x ≤ l.getD j 0 := fun j hj hl => by
  by_cases c : j = h
  · subst c; omega
  · have := hr h j (by omega) hl
    omega

set_option maxRecDepth 100000 in
set_option maxHeartbeats 2000000 in
theorem isNaN12_calls (a : Int) (w : World) : Calls Try.prog 35 #[.int .i64 a] w fun e w' => e = .returned (.bool false) ∧ w' = w := by
  have f1 : (a == a) = true := by simp
  go_enter Try.func35, Try.ntmps35
  go_wp2
  go_ret
  exact ⟨rfl, rfl⟩
set_option maxRecDepth 100000 in
set_option maxHeartbeats 2000000 in
theorem isNaNs_calls (a : Int) (w : World) : Calls Try.prog 60 #[.int .i64 a] w fun e w' => e = .returned (.bool false) ∧ w' = w := by
  have f1 : (a == a) = true := by simp
  go_enter Try.func60, Try.ntmps60
  go_wp2
  go_ret
  exact ⟨rfl, rfl⟩
set_option maxRecDepth 100000 in
set_option maxHeartbeats 2000000 in
theorem less_calls (a b : Int) (w : World) : Calls Try.prog 59 #[.int .i64 a, .int .i64 b] w fun e w' => e = .returned (.bool (decide (a < b))) ∧ w' = w := by
  have K := veil (fun x W => isNaN12_calls x W)
  obtain ⟨R, hR⟩ : ∃ R, R = decide (a < b) := ⟨_, rfl⟩
  have hd := hR.symm
  rw [← hR]
  clear hR
  go_enter Try.func59, Try.ntmps59
  go_wp2_with (go_at_call 35; refine (K.out _ _).mono ?_; rintro e w' ⟨rfl, rfl⟩)
  go_ret
  exact ⟨rfl, rfl⟩

set_option maxRecDepth 100000 in
set_option maxHeartbeats 8000000 in
theorem search_calls (v : Value) (l : List Int) (x : Int) (w : World) (hF : Ds w v l) (hL : l.length ≤ 1000000000) (hr : riseD l) :
    Calls Try.prog 52 #[v, .int .i64 x] w fun e w' => ∃ i : Nat, e = .returned (.tuple #[.int .i64 (i : Int), .bool (decide (x ∈ l))]) ∧ w' = w ∧ AtD l x i := by
  obtain ⟨AL, c, rfl, hc, hx⟩ := hF
  obtain ⟨R, hR⟩ : ∃ R, R = decide (x ∈ l) := ⟨_, rfl⟩
  rw [← hR]
  obtain ⟨n, hn⟩ : ∃ n, n = l.length := ⟨_, rfl⟩
  rw [← hn] at hx hc ⊢
  have HR := veil (And.intro hR (And.intro hn (And.intro hL hr)))
  have HX := veil hx
  have hnL : n ≤ 1000000000 := by omega
  have KN := veil (fun y W => isNaNs_calls y W)
  have KL := veil (fun y W => less_calls y x W)
  clear hR hx hn hL hr
  go_enter Try.func52, Try.ntmps52
  go_wp2
  go_loopw [7, 8, 9] (fun u v _ wr => ∃ i j : Nat, i ≤ j ∧ j ≤ n ∧ u = .int .i64 (i : Int) ∧ v = .int .i64 (j : Int) ∧ (∀ k, k < i → l.getD k 0 < x) ∧ (∀ k, j ≤ k → k < l.length → x ≤ l.getD k 0) ∧ wr = w)
    (fun u v _ _ => (intOf v).toNat - (intOf u).toNat)
  case atStart => exact ⟨0, n, by omega, by omega, rfl, rfl, fun j hj => by omega, fun k h1 h2 => by have := HR.out.2.1; omega, rfl⟩
  case round =>
    obtain ⟨i, j, hij, hjn, rfl, rfl, hlo, hhi, rfl⟩ := hrel
    by_cases hlt : i < j
    · have hd1 : decide ((i : Int) < (j : Int)) = true := by simp; omega
      obtain ⟨b, o, hAL, hb, hcl⟩ := HX.out.resolve_left (by omega)
      obtain ⟨m, hm⟩ : ∃ m, m = (i + j) / 2 := ⟨_, rfl⟩
      have hml : m < l.length := by have := HR.out.2.1; omega
      have hmn : (m : Int) < (n : Int) := by omega
      have c0 := d_cell (Ext.refl _) hb hcl hml
      have HK := veil (And.intro hlo (And.intro hhi (And.intro hml (And.intro hm hij))))
      obtain ⟨k, hk⟩ : ∃ z, z = l.getD m 0 := ⟨_, rfl⟩
      rw [← hk] at c0
      have HV := veil hk
      have hij2 : (i : Int) + (j : Int) ≤ 2000000000 := by omega
      have hmm : ((i : Int) + (j : Int)) / 2 = (m : Int) := by omega
      have hm0 : (m : Int) ≤ 1000000000 := by omega
      subst hAL
      clear hk hlo hhi hcl hb hml hm hij
      by_cases g : k < x
      · have KL1 := veil (show Calls Try.prog 59 #[.int .i64 k, .int .i64 x] wr fun e w' => e = .returned (.bool true) ∧ w' = wr from by have := KL.out k wr; rwa [decide_eq_true g] at this)
        have G := veil g
        clear g
        go_wp2_with (go_at_call 59; refine KL1.out.mono ?_; rintro e w' ⟨rfl, rfl⟩)
        go_roundw
        case rel => exact ⟨m + 1, j, by have := HK.out; omega, by omega, by go_num, rfl, below_of HR.out.2.2.2 HK.out.2.2.1 (by rw [← HV.out]; exact G.out), HK.out.2.1, trivial⟩
        case measure => have := HK.out; simp [intOf]; omega
      · have KL1 := veil (show Calls Try.prog 59 #[.int .i64 k, .int .i64 x] wr fun e w' => e = .returned (.bool false) ∧ w' = wr from by have := KL.out k wr; rwa [decide_eq_false g] at this)
        have G := veil g
        clear g
        go_wp2_with (go_at_call 59; refine KL1.out.mono ?_; rintro e w' ⟨rfl, rfl⟩)
        go_roundw
        case rel => exact ⟨i, m, by have := HK.out; omega, by have := HK.out; omega, rfl, rfl, HK.out.1, above_of HR.out.2.2.2 (by rw [← HV.out]; have := G.out; omega), trivial⟩
        case measure => have := HK.out; simp [intOf]; omega
    · obtain rfl : i = j := by omega
      have hd1 : decide ((i : Int) < (i : Int)) = false := by simp
      have HA := veil (show AtD l x i from ⟨by have := HR.out.2.1; omega, hlo, hhi⟩)
      clear hlo hhi
      by_cases hin : i < n
      · have hd2 : decide ((i : Int) < (n : Int)) = true := by simp; omega
        have hii : (i : Int) < (n : Int) := by omega
        obtain ⟨b, o, hAL, hb, hcl⟩ := HX.out.resolve_left (by omega)
        have hil : i < l.length := by have := HR.out.2.1; omega
        have c0 := d_cell (Ext.refl _) hb hcl hil
        obtain ⟨k, hk⟩ : ∃ z, z = l.getD i 0 := ⟨_, rfl⟩
        rw [← hk] at c0
        have HV := veil (And.intro hk hil)
        subst hAL
        clear hk hcl hb hil
        by_cases g : k = x
        · have f1 : (k == x) = true := by simp [g]
          obtain rfl : R = true := HR.out.1.trans (at_yes HA.out HV.out.2 (HV.out.1.symm.trans g))
          clear g
          go_wp2_with (go_at_call 60; refine (KN.out _ _).mono ?_; rintro e w' ⟨rfl, rfl⟩)
          go_ret2
          exact ⟨i, rfl, rfl, HA.out⟩
        · have f1 : (k == x) = false := by simp [g]
          obtain rfl : R = false := HR.out.1.trans (at_no HR.out.2.2.2 HA.out HV.out.2 fun h => g (HV.out.1.trans h))
          clear g
          go_wp2_with (go_at_call 60; refine (KN.out _ _).mono ?_; rintro e w' ⟨rfl, rfl⟩)
          go_ret2
          exact ⟨i, rfl, rfl, HA.out⟩
      · obtain rfl : i = n := by omega
        have hd2 : decide ((i : Int) < (i : Int)) = false := by simp
        obtain rfl : R = false := HR.out.1.trans (at_end HA.out HR.out.2.1)
        go_wp2
        go_ret2
        exact ⟨i, rfl, rfl, HA.out⟩
end Go.Proofs.Ytebcdhfmhnhalaa
