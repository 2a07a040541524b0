/-
  clapperref08.Of: the number of bytes.
-/
import Derived.Test.YtldnncamaglofaaT1
namespace Go.Proofs.Ytldnncamaglofaa
open Go.RowKit

theorem valB_le {bs : List Nat} (h : Byt bs) (h0 : bs.getD 0 0 ≤ 127) (hl : bs.length = 8) {i : Nat} (hi : i < 8) : valB (bs.take (i + 1)) ≤ 9223372036854775807 := by
  have h1 := valB_lt h h0 i (by omega)
  have h2 : 128 * 256 ^ i ≤ 128 * 256 ^ 7 := Nat.mul_le_mul_left _ (Nat.pow_le_pow_right (by decide) (by omega))
  have : (128 : Nat) * 256 ^ 7 = 9223372036854775808 := by decide
  omega

set_option maxRecDepth 100000 in
set_option maxHeartbeats 4000000 in
theorem rof8_calls (A : Option Addr) (m c : Nat) (bs : List Nat) (hm : m = bs.length) (w : World) (hS : Bs w A bs) :
    Calls Try.prog 28 #[.slice A m c] w fun e w' => e = .returned (.int .i64 (ofB bs)) ∧ Ext w w' := by
  have HS := veil (And.intro hS hm)
  by_cases h8 : m = 8
  · subst h8
    obtain ⟨b, o, hA, hb, c0⟩ := hS.cell (j := 0) (by omega)
    rw [Nat.add_zero] at c0
    have l0 := hS.1.getD 0
    obtain ⟨R, hR⟩ : ∃ R, R = ofB bs := ⟨_, rfl⟩
    rw [← hR]
    obtain ⟨X, hX⟩ : ∃ X, X = bs.getD 0 0 := ⟨_, rfl⟩
    rw [← hX] at c0 l0
    have HX := veil (And.intro hR hX)
    subst hA
    clear hS hm hR hX
    have k0 : (X : Int) ≤ 255 := by omega
    by_cases hx : 127 < X
    · have hd : decide ((127 : Int) < (X : Int)) = true := by simp; omega
      have hd2 : decide (127 < X) = true := by simp; omega
      have hr : R = -1 := by
        rw [HX.out.1]
        unfold ofB
        rw [if_neg]
        intro h
        have := HX.out.2
        omega
      subst hr
      go_enter Try.func28, Try.ntmps28
      go_wp2_with fail
      go_ret
      exact ⟨rfl, Ext.refl _⟩
    · have hd : decide ((127 : Int) < (X : Int)) = false := by simp; omega
      have hd2 : decide (127 < X) = false := by simp; omega
      have hr : R = (valB bs : Nat) := by
        rw [HX.out.1]
        unfold ofB
        rw [if_pos]
        have := HX.out.2
        have := HS.out.2
        omega
      have HR := veil hr
      have hx0 : bs.getD 0 0 ≤ 127 := by rw [← HX.out.2]; omega
      have HV := veil (fun (i : Nat) (hi : i < 8) => valB_le HS.out.1.1 hx0 HS.out.2.symm hi)
      clear hr hx0
      go_enter Try.func28, Try.ntmps28
      go_wp2_with fail
      go_loopw [3, 4] (fun v u wr => ∃ i : Nat, i ≤ 8 ∧ u = .int .i64 (i : Int) ∧ v = .int .i64 ((valB (bs.take i) : Nat) : Int) ∧ Ext w wr)
        (fun _ v _ => 8 - (intOf v).toNat)
      case atStart => exact ⟨0, by omega, rfl, rfl, Ext.refl _⟩
      case round =>
        obtain ⟨i, hi, rfl, rfl, hE⟩ := hrel
        by_cases hlt : i < 8
        · have hii : (i : Int) < 8 := by omega
          obtain ⟨b2, o2, hA, _, c1⟩ := (HS.out.1.ext hE).cell (j := i) (by have := HS.out.2; omega)
          obtain ⟨e1, e2⟩ : b2 = b ∧ o2 = o := by injection hA with h; injection h with h1 h2; exact ⟨h1.symm, h2.symm⟩
          subst e1 e2
          have l1 := HS.out.1.1.getD i
          have hv := HV.out i hlt
          rw [valB_take (by have := HS.out.2; omega)] at hv
          obtain ⟨V, hV⟩ : ∃ V, V = valB (bs.take i) := ⟨_, rfl⟩
          obtain ⟨Y, hY⟩ : ∃ Y, Y = bs.getD i 0 := ⟨_, rfl⟩
          rw [← hV, ← hY] at hv
          rw [← hY] at c1 l1
          rw [← hV]
          have HVY := veil (And.intro hV hY)
          have k1 : (Y : Int) ≤ 255 := by omega
          have k2 : 256 * (V : Int) + (Y : Int) ≤ 9223372036854775807 := by omega
          clear hV hY hv l1 hA
          go_wp2
          go_roundw
          case rel =>
            refine ⟨i + 1, by omega, by go_num, ?_, hE⟩
            rw [valB_take (by have := HS.out.2; omega), ← HVY.out.1, ← HVY.out.2]
            simp
          case measure => simp [intOf]; omega
        · obtain rfl : i = 8 := by omega
          have e : bs.take 8 = bs := List.take_of_length_le (by have := HS.out.2; omega)
          rw [e]
          go_wp2
          go_ret
          exact ⟨by rw [HR.out]; rfl, hE⟩
  · have hr : ofB bs = -1 := by
      unfold ofB
      rw [if_neg]
      intro h
      omega
    rw [hr]
    have h8' : ¬ ((m : Int) = 8) := by omega
    clear hr hS hm
    go_enter Try.func28, Try.ntmps28
    go_wp2_with fail
    go_ret
    exact ⟨rfl, Ext.refl _⟩
end Go.Proofs.Ytldnncamaglofaa
