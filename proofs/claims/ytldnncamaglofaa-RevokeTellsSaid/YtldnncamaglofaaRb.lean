/-
  Lists of revoked serials in memory; clapperref11.May, From, Is.
-/
import Derived.Test.YtldnncamaglofaaRa
import Derived.Test.YtldnncamaglofaaLs
import Derived.Test.YtldnncamaglofaaTI
namespace Go.Proofs.Ytldnncamaglofaa
open Go.RowKit

def rvC (x : Rv) : List Value := [.int .i64 x.1, .int .i64 x.2]
theorem rvC_length (x : Rv) : (rvC x).length = 2 := rfl
theorem rvC_one (x : Rv) : ∀ u ∈ rvC x, u.oneCell' = true := fun u hu => by
  simp only [rvC, List.mem_cons, List.not_mem_nil, or_false] at hu
  rcases hu with rfl | rfl <;> rfl
/-- v is a slice of the list l. -/
abbrev Rs (w : World) (v : Value) (l : List Rv) : Prop := Ls 2 rvC w v l
theorem infoRv : (Try.prog.info? 43).map (·.size) = some 2 := by kernel_rfl
theorem iRv (x : Rv) : (Try.prog.info? 43).map (·.size) = some (rvC x).length := infoRv
theorem iRvA (x : Rv) : (Try.prog.info? 43).map (·.size) = some (rvC x).toArray.size := infoRv
theorem hzRv (W : World) : (Instr.alloc 43 true (.tuple #[])).run Try.prog W = .ok (ptrTo W.heap.size) (W.alloc (.cells #[.int .i64 0, .int .i64 0] 43)) := by simp [Instr.alloc, go_sem]
theorem rvA_one (x : Rv) : (rvC x).toArray.all (·.oneCell') = true := by simp [rvC, Value.oneCell']
theorem rvA_size (x : Rv) : (#[.int .i64 0, .int .i64 0] : Array Value).size = (rvC x).toArray.size := rfl
section
variable {w : World} {b o : Nat} {x : Rv}
theorem rv_s (h : w.rangeAt b o (rvC x)) : w.cell? ⟨b, o, none⟩ = some (.int .i64 x.1) := h 0 _ rfl
theorem rv_f (h : w.rangeAt b o (rvC x)) : w.cell? ⟨b, o + 1, none⟩ = some (.int .i64 x.2) := h 1 _ rfl
theorem rv_blk {g : Nat} {fr : Nat × Nat} (h : w.heap[g]? = some (.cells (rvC x).toArray 43 fr)) : w.rangeAt g 0 (rvC x) := fun j v hv => by
  rw [Nat.zero_add, cell_of_row w g j _ _ _ h]
  simpa using hv
end

set_option maxRecDepth 100000 in
set_option maxHeartbeats 8000000 in
theorem rmay11_calls (v : Value) (l : List Rv) (w : World) (hF : Rs w v l) (hL : l.length ≤ 1000000000) :
    Calls Try.prog 7 #[v] w fun e w' => e = .returned (.bool (mayRs l)) ∧ Ext w w' := by
  obtain ⟨AL, c, rfl, hc, hx⟩ := hF
  obtain ⟨R, hR⟩ : ∃ R, R = mayRs l := ⟨_, rfl⟩
  rw [← hR]
  obtain ⟨n, hn⟩ : ∃ n, n = l.length := ⟨_, rfl⟩
  rw [← hn] at hx hc ⊢
  have HR := veil (And.intro hR (And.intro hn hL))
  have HX := veil hx
  have hnL : n ≤ 1000000000 := by omega
  clear hR hx hn hL
  go_enter Try.func7, Try.ntmps7
  go_wp2
  go_loopw [3] (fun v wr => ∃ i : Nat, i ≤ n ∧ v = .int .i64 (i : Int) ∧ (∀ j, j < i → okR l j) ∧ Ext w wr)
    (fun v _ => n - (intOf v).toNat)
  case atStart => exact ⟨0, by omega, rfl, fun j hj => by omega, Ext.refl _⟩
  case round =>
    obtain ⟨i, hi, rfl, hall, hE⟩ := hrel
    by_cases hlt : i < n
    · have hd1 : decide ((i : Int) < (n : Int)) = true := by simp; omega
      have hii : (i : Int) < (n : Int) := by omega
      obtain ⟨b, o, hAL, hb, hcl⟩ := HX.out.resolve_left (by omega)
      have hil : i < l.length := by have := HR.out.2.1; omega
      have hrg := range_ext hE hb (hcl i _ (rv_get hil))
      have hpc : 0 < i → wr.cell? ⟨b, o + (i - 1) * 2, none⟩ = some (.int .i64 (rvS l (i - 1))) := fun h0 =>
        rv_s (range_ext hE hb (hcl (i - 1) _ (rv_get (show i - 1 < l.length by omega))))
      have hfalse : ∀ h : ¬ okR l i, R = false := fun h => HR.out.1.trans (mayRs_false hil h)
      have HK := veil (And.intro hall (And.intro hfalse (And.intro hpc hE)))
      have c0 : wr.cell? ⟨b, o + i * 2, none⟩ = some (.int .i64 (rvS l i)) := rv_s hrg
      have c1 : wr.cell? ⟨b, o + i * 2 + 1, none⟩ = some (.int .i64 (rvF l i)) := rv_f hrg
      obtain ⟨ks, hks⟩ : ∃ z, z = rvS l i := ⟨_, rfl⟩
      obtain ⟨kf, hkf⟩ : ∃ z, z = rvF l i := ⟨_, rfl⟩
      rw [← hks] at c0
      rw [← hkf] at c1
      have HV := veil (And.intro hks hkf)
      clear hks hkf hil hb hE hall hfalse hpc hrg hcl
      subst hAL
      go_upto_region 4 with (fail)
      by_cases g0 : ks < 1
      · have hd2 : decide (ks < 1) = true := decide_eq_true g0
        have e : R = false := HK.out.2.1 fun h => by have h1 := h.1; rw [← HV.out.1] at h1; omega
        subst e
        go_quiet (fail)
        go_wp2
        go_ret
        exact ⟨rfl, HK.out.2.2.2.trans (Ext.drewK _ _)⟩
      · have hd2 : decide (ks < 1) = false := decide_eq_false g0
        by_cases g1 : 2147483647 < ks
        · have hd3 : decide (2147483647 < ks) = true := decide_eq_true g1
          have e : R = false := HK.out.2.1 fun h => by have h1 := h.2.1; rw [← HV.out.1] at h1; omega
          subst e
          go_quiet (fail)
          go_wp2
          go_ret
          exact ⟨rfl, HK.out.2.2.2.trans (Ext.drewK _ _)⟩
        · have hd3 : decide (2147483647 < ks) = false := decide_eq_false g1
          by_cases g2 : kf < 0
          · have hd4 : decide (kf < 0) = true := decide_eq_true g2
            have e : R = false := HK.out.2.1 fun h => by have h1 := h.2.2.1; rw [← HV.out.2] at h1; omega
            subst e
            go_quiet (fail)
            go_wp2
            go_ret
            exact ⟨rfl, HK.out.2.2.2.trans (Ext.drewK _ _)⟩
          · have hd4 : decide (kf < 0) = false := decide_eq_false g2
            by_cases g3 : 1073741824 < kf
            · have hd5 : decide (1073741824 < kf) = true := decide_eq_true g3
              have e : R = false := HK.out.2.1 fun h => by have h1 := h.2.2.2.1; rw [← HV.out.2] at h1; omega
              subst e
              go_quiet (fail)
              go_wp2
              go_ret
              exact ⟨rfl, HK.out.2.2.2.trans (Ext.drewK _ _)⟩
            · have hd5 : decide (1073741824 < kf) = false := decide_eq_false g3
              by_cases g7 : i = 0
              · have hd9 : decide (0 < i) = false := by simp; omega
                have hd9' : decide ((0 : Int) < (i : Int)) = false := by simp; omega
                have G := veil g7
                clear g7
                go_quiet (fail)
                go_wp2
                go_roundw
                case rel =>
                  refine ⟨i + 1, by omega, by go_num, fun j hj => ?_, HK.out.2.2.2.trans (Ext.drewK _ _)⟩
                  obtain rfl : j = i := by have := G.out; omega
                  unfold okR
                  rw [← HV.out.1, ← HV.out.2]
                  exact ⟨by omega, by omega, by omega, by omega, fun h => absurd h (by have := G.out; omega)⟩
                case measure => simp [intOf]; omega
              · have hd9 : decide (0 < i) = true := by simp; omega
                have hd9' : decide ((0 : Int) < (i : Int)) = true := by simp; omega
                have cp := HK.out.2.2.1 (by omega)
                obtain ⟨z, hz⟩ : ∃ z, z = rvS l (i - 1) := ⟨_, rfl⟩
                rw [← hz] at cp
                have hki2 : (i : Int) - 1 = ((i - 1 : Nat) : Int) := by omega
                obtain ⟨m, hm⟩ : ∃ m, m = i - 1 := ⟨_, rfl⟩
                rw [← hm] at cp hki2
                have hmn : (m : Int) < (n : Int) := by omega
                have HZ := veil (And.intro hz hm)
                clear hz hm
                by_cases g8 : ks ≤ z
                · have hd10 : decide (ks ≤ z) = true := decide_eq_true g8
                  have e : R = false := HK.out.2.1 fun h => by
                    have h1 := h.2.2.2.2 (by omega)
                    rw [← HV.out.1, ← HZ.out.1] at h1
                    omega
                  subst e
                  go_quiet (fail)
                  go_wp2
                  go_ret
                  exact ⟨rfl, HK.out.2.2.2.trans (Ext.drewK _ _)⟩
                · have hd10 : decide (ks ≤ z) = false := decide_eq_false g8
                  go_quiet (fail)
                  go_wp2
                  go_roundw
                  case rel =>
                    refine ⟨i + 1, by omega, by go_num, fun j hj => ?_, HK.out.2.2.2.trans (Ext.drewK _ _)⟩
                    by_cases e : j = i
                    · subst e
                      unfold okR
                      rw [← HV.out.1, ← HV.out.2, ← HZ.out.1]
                      exact ⟨by omega, by omega, by omega, by omega, fun _ => by omega⟩
                    · exact HK.out.1 j (by omega)
                  case measure => simp [intOf]; omega
    · obtain rfl : i = n := by omega
      have e : R = decide ((i : Int) ≤ 200) := by
        rw [HR.out.1, mayRs_len (by rw [← HR.out.2.1]; exact hall), ← HR.out.2.1]
        by_cases h : i ≤ 200
        · rw [decide_eq_true h, decide_eq_true (by omega)]
        · rw [decide_eq_false h, decide_eq_false (by omega)]
      have HE := veil e
      clear hall e
      go_wp2
      go_ret
      exact ⟨by rw [HE.out]; rfl, hE⟩

set_option maxRecDepth 100000 in
set_option maxHeartbeats 4000000 in
theorem rfrom11_calls (v : Value) (l : List Rv) (s : Int) (w : World) (hF : Rs w v l) (hL : l.length ≤ 1000000000) :
    Calls Try.prog 18 #[v, .int .i64 s] w fun e w' => e = .returned (.int .i64 (fromR l s)) ∧ Ext w w' := by
  obtain ⟨AL, c, rfl, hc, hx⟩ := hF
  obtain ⟨R, hR⟩ : ∃ R, R = fromR l s := ⟨_, rfl⟩
  rw [← hR]
  obtain ⟨n, hn⟩ : ∃ n, n = l.length := ⟨_, rfl⟩
  rw [← hn] at hx hc ⊢
  have HR := veil (And.intro hR (And.intro hn hL))
  have HX := veil hx
  have hnL : n ≤ 1000000000 := by omega
  clear hR hx hn hL
  go_enter Try.func18, Try.ntmps18
  go_wp2
  go_loopw [5] (fun v wr => ∃ i : Nat, i ≤ n ∧ v = .int .i64 (i : Int) ∧ (∀ j, j < i → rvS l j ≠ s) ∧ Ext w wr)
    (fun v _ => n - (intOf v).toNat)
  case atStart => exact ⟨0, by omega, rfl, fun j hj => by omega, Ext.refl _⟩
  case round =>
    obtain ⟨i, hi, rfl, hall, hE⟩ := hrel
    by_cases hlt : i < n
    · have hd1 : decide ((i : Int) < (n : Int)) = true := by simp; omega
      have hii : (i : Int) < (n : Int) := by omega
      obtain ⟨b, o, hAL, hb, hcl⟩ := HX.out.resolve_left (by omega)
      have hil : i < l.length := by have := HR.out.2.1; omega
      have hrg := range_ext hE hb (hcl i _ (rv_get hil))
      have c0 : wr.cell? ⟨b, o + i * 2, none⟩ = some (.int .i64 (rvS l i)) := rv_s hrg
      have c1 : wr.cell? ⟨b, o + i * 2 + 1, none⟩ = some (.int .i64 (rvF l i)) := rv_f hrg
      have HK := veil (And.intro hall (And.intro hil hE))
      obtain ⟨ks, hks⟩ : ∃ z, z = rvS l i := ⟨_, rfl⟩
      obtain ⟨kf, hkf⟩ : ∃ z, z = rvF l i := ⟨_, rfl⟩
      rw [← hks] at c0
      rw [← hkf] at c1
      have HV := veil (And.intro hks hkf)
      clear hks hkf hall hrg hcl hb hE hil
      subst hAL
      by_cases g0 : ks = s
      · have f1 : (ks == s) = true := by simp [g0]
        have e : R = kf := by
          have h1 := look_idx (s := s) HK.out.2.1 HK.out.1 (by rw [← HV.out.1]; exact g0)
          rw [HR.out.1]
          unfold fromR
          rw [h1, ← HV.out.2]
        subst e
        rw [g0] at c0 f1
        clear g0
        go_wp2
        go_ret
        exact ⟨rfl, HK.out.2.2⟩
      · have f1 : (ks == s) = false := by simp [g0]
        have G := veil g0
        clear g0
        go_wp2
        go_roundw
        case rel =>
          refine ⟨i + 1, by omega, by go_num, fun j hj => ?_, HK.out.2.2⟩
          by_cases e : j = i
          · subst e
            rw [← HV.out.1]
            exact G.out
          · exact HK.out.1 j (by omega)
        case measure => simp [intOf]; omega
    · obtain rfl : i = n := by omega
      have hd1 : decide ((i : Int) < (i : Int)) = false := by simp
      have e : R = -1 := by
        rw [HR.out.1]
        unfold fromR
        rw [look_no (by rw [← HR.out.2.1]; exact hall)]
      subst e
      clear hall
      go_wp2
      go_ret
      exact ⟨rfl, hE⟩

set_option maxRecDepth 100000 in
set_option maxHeartbeats 4000000 in
theorem ris11_calls (v : Value) (l : List Rv) (s t : Int) (w : World) (hF : Rs w v l) (hL : l.length ≤ 1000000000) :
    Calls Try.prog 8 #[v, .int .i64 s, .int .i64 t] w fun e w' => e = .returned (.bool (isR l s t)) ∧ Ext w w' := by
  have KF := veil (rfrom11_calls v l s w hF hL)
  rw [isR_from]
  generalize fromR l s = f at *
  clear hF hL
  go_enter Try.func8, Try.ntmps8
  by_cases g : 0 ≤ f
  · have hd1 : decide (0 ≤ f) = true := decide_eq_true g
    rw [hd1, Bool.true_and]
    go_wp2_with (go_at_call 18; refine KF.out.mono ?_; rintro e w1 ⟨rfl, hE⟩)
    go_ret
    exact ⟨rfl, hE⟩
  · have hd1 : decide (0 ≤ f) = false := decide_eq_false g
    rw [hd1, Bool.false_and]
    go_wp2_with (go_at_call 18; refine KF.out.mono ?_; rintro e w1 ⟨rfl, hE⟩)
    go_ret
    exact ⟨rfl, hE⟩
end Go.Proofs.Ytldnncamaglofaa
