/-
  clapperref08.May: whether fields may be.
-/
import Derived.Test.YtldnncamaglofaaT1
namespace Go.Proofs.Ytldnncamaglofaa
open Go.RowKit

theorem mayFs_false {fs : List Fd} {i : Nat} (hi : i < fs.length) (h : ¬ okF fs i) : mayFs fs = false := decide_eq_false fun hh => h (hh.2 i hi)
theorem mayFs_len {fs : List Fd} (h : ∀ i, i < fs.length → okF fs i) : mayFs fs = decide (fs.length ≤ 64) := by
  unfold mayFs
  by_cases hc : fs.length ≤ 64
  · rw [decide_eq_true hc, decide_eq_true ⟨hc, h⟩]
  · rw [decide_eq_false hc, decide_eq_false fun hh => hc hh.1]

set_option maxRecDepth 100000 in
set_option maxHeartbeats 4000000 in
theorem rmay8_calls (v : Value) (fs : List Fd) (w : World) (hF : Fl w v fs) (hL : fs.length ≤ 1000000000) :
    Calls Try.prog 41 #[v] w fun e w' => e = .returned (.bool (mayFs fs)) ∧ Ext w w' := by
  obtain ⟨hB, AL, c, rfl, hc, hx⟩ := hF
  obtain ⟨R, hR⟩ : ∃ R, R = mayFs fs := ⟨_, rfl⟩
  rw [← hR]
  obtain ⟨n, hn⟩ : ∃ n, n = fs.length := ⟨_, rfl⟩
  rw [← hn] at hx hc ⊢
  have HR := veil (And.intro hR (And.intro hn hL))
  have HX := veil hx
  have hnL : n ≤ 1000000000 := by omega
  clear hR hx hB hn hL
  go_enter Try.func41, Try.ntmps41
  go_wp2
  go_loopw [3] (fun v wr => ∃ i : Nat, i ≤ n ∧ v = .int .i64 (i : Int) ∧ (∀ j, j < i → okF fs j) ∧ Ext w wr)
    (fun v _ => n - (intOf v).toNat)
  case atStart => exact ⟨0, by omega, rfl, fun j hj => by omega, Ext.refl _⟩
  case round =>
    obtain ⟨i, hi, rfl, hall, hE⟩ := hrel
    by_cases hlt : i < n
    · have hd1 : decide ((i : Int) < (n : Int)) = true := by simp; omega
      have hii : (i : Int) < (n : Int) := by omega
      obtain ⟨b, o, hAL, hb, hcl⟩ := HX.out.resolve_left (by omega)
      obtain ⟨h1, A, c', h2, _, _⟩ := hcl i hlt
      have c0 := (hE.cell hb).trans h1
      have c1 := (hE.cell hb).trans h2
      obtain ⟨T, hT⟩ : ∃ T, T = tgF fs i := ⟨_, rfl⟩
      obtain ⟨L, hL⟩ : ∃ L, L = (bsF fs i).length := ⟨_, rfl⟩
      rw [← hT] at c0
      rw [← hL] at c1
      have HT := veil (And.intro hT hL)
      have HALL := veil hall
      have hfalse : ∀ h : ¬ okF fs i, R = false := fun h => HR.out.1.trans (mayFs_false (by have := HR.out.2.1; omega) h)
      have HF := veil hfalse
      subst hAL
      clear h1 h2 hT hL hall hfalse
      by_cases g1 : T < 1
      · have e : R = false := HF.out fun h => by have := h.1; rw [← HT.out.1] at this; omega
        subst e
        have hd : decide (T < 1) = true := decide_eq_true g1
        clear hcl
        go_wp2_with fail
        go_quiet (fail)
        go_wp2
        go_ret
        exact ⟨rfl, hE.trans (Ext.drewK _ _)⟩
      · have hd2 : decide (T < 1) = false := decide_eq_false g1
        by_cases g2 : 255 < T
        · have e : R = false := HF.out fun h => by have := h.2.1; rw [← HT.out.1] at this; omega
          subst e
          have hd : decide (255 < T) = true := decide_eq_true g2
          clear hcl
          go_wp2_with fail
          go_quiet (fail)
          go_wp2
          go_ret
          exact ⟨rfl, hE.trans (Ext.drewK _ _)⟩
        · have hd3 : decide (255 < T) = false := decide_eq_false g2
          by_cases g3 : (65535 : Int) < (L : Int)
          · have e : R = false := HF.out fun h => by have := h.2.2.1; rw [← HT.out.2] at this; omega
            subst e
            have hd : decide ((65535 : Int) < (L : Int)) = true := decide_eq_true g3
            clear hcl
            go_wp2_with fail
            go_quiet (fail)
            go_wp2
            go_ret
            exact ⟨rfl, hE.trans (Ext.drewK _ _)⟩
          · have hd4 : decide ((65535 : Int) < (L : Int)) = false := decide_eq_false g3
            by_cases g4 : i = 0
            · have hd5 : decide (0 < i) = false := by simp; omega
              have G4 := veil g4
              clear hcl g4
              go_wp2_with fail
              go_quiet (fail)
              go_wp2
              go_roundw
              case rel =>
                refine ⟨i + 1, by omega, by go_num, fun j hj => ?_, hE.trans (Ext.drewK _ _)⟩
                obtain rfl : j = i := by have := G4.out; omega
                exact ⟨by rw [← HT.out.1]; omega, by rw [← HT.out.1]; omega, by rw [← HT.out.2]; omega, fun h => absurd h (by have := G4.out; omega)⟩
              case measure => simp [intOf]; omega
            · have hd5 : decide (0 < i) = true := by simp; omega
              obtain ⟨k, hk⟩ : ∃ k, k = i - 1 := ⟨_, rfl⟩
              have hki : (i : Int) - 1 = (k : Int) := by omega
              have hkn : (k : Int) < (n : Int) := by omega
              have d0 := (hE.cell hb).trans (hcl k (by omega)).1
              obtain ⟨P, hP⟩ : ∃ P, P = tgF fs k := ⟨_, rfl⟩
              rw [← hP] at d0
              have HP := veil (And.intro hP hk)
              clear hcl hP hk
              by_cases g5 : T ≤ P
              · have e : R = false := HF.out fun h => by have := h.2.2.2 (by omega); rw [← HT.out.1, ← HP.out.2, ← HP.out.1] at this; omega
                subst e
                have hd : decide (T ≤ P) = true := decide_eq_true g5
                go_wp2_with fail
                go_quiet (fail)
                go_wp2
                go_ret
                exact ⟨rfl, hE.trans (Ext.drewK _ _)⟩
              · have hd : decide (T ≤ P) = false := decide_eq_false g5
                go_wp2_with fail
                go_quiet (fail)
                go_wp2
                go_roundw
                case rel =>
                  refine ⟨i + 1, by omega, by go_num, fun j hj => ?_, hE.trans (Ext.drewK _ _)⟩
                  by_cases e : j = i
                  · subst e
                    refine ⟨by rw [← HT.out.1]; omega, by rw [← HT.out.1]; omega, by rw [← HT.out.2]; omega, fun _ => ?_⟩
                    rw [← HT.out.1, ← HP.out.2, ← HP.out.1]
                    omega
                  · exact HALL.out j (by omega)
                case measure => simp [intOf]; omega
    · obtain rfl : i = n := by omega
      have e : R = decide ((i : Int) ≤ 64) := by
        rw [HR.out.1, mayFs_len (by rw [← HR.out.2.1]; exact hall), ← HR.out.2.1]
        by_cases h : i ≤ 64
        · rw [decide_eq_true h, decide_eq_true (by omega)]
        · rw [decide_eq_false h, decide_eq_false (by omega)]
      have HE := veil e
      clear hall e
      go_wp2
      go_ret
      exact ⟨by rw [HE.out]; rfl, hE⟩
end Go.Proofs.Ytldnncamaglofaa
