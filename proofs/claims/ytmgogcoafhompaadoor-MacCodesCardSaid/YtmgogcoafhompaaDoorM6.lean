/-
  mac.Same: whether two texts are alike.
-/
import Derived.Test.YtmgogcoafhompaaDoorMDef
import Derived.BigQuiet
namespace Go.Proofs.YtmgogcoafhompaaDoor
open Go.RowKit

theorem or8 (a b : Nat) (ha : a < 256) (hb : b < 256) : bits .or .u8 (a : Int) (b : Int) = ((a ||| b : Nat) : Int) := by
  have hx : a ||| b < 2 ^ 8 := Nat.or_lt_two_pow (by omega) (by omega)
  have e1 : (BitVec.ofInt 8 (a : Int)).toNat = a := by rw [BitVec.ofInt_natCast, BitVec.toNat_ofNat]; exact Nat.mod_eq_of_lt (by omega)
  have e2 : (BitVec.ofInt 8 (b : Int)).toNat = b := by rw [BitVec.ofInt_natCast, BitVec.toNat_ofNat]; exact Nat.mod_eq_of_lt (by omega)
  show IntKind.u8.wrap ((BitVec.ofInt 8 (a : Int) ||| BitVec.ofInt 8 (b : Int)).toNat : Int) = _
  rw [BitVec.toNat_or, e1, e2, wrap8]
  omega
theorem or8_lt {a b : Nat} (ha : a < 256) (hb : b < 256) : a ||| b < 256 := Nat.or_lt_two_pow (n := 8) (by omega) (by omega)
theorem or_zero {a b : Nat} : a ||| b = 0 ↔ a = 0 ∧ b = 0 := Nat.or_eq_zero_iff
theorem xor_nil {a b : Nat} : a ^^^ b = 0 ↔ a = b := by
  constructor
  · intro h
    have h2 : (a ^^^ b) ^^^ b = a := by rw [Nat.xor_assoc, Nat.xor_self, Nat.xor_zero]
    rw [← h2, h, Nat.zero_xor]
  · rintro rfl
    exact Nat.xor_self a

/-- Whether two texts are alike. -/
def eqB (y : Nat → Nat) (n : Nat) (z : Nat → Nat) (m : Nat) : Bool := decide (n = m ∧ ∀ j, j < n → y j = z j)
theorem eqB_self (y : Nat → Nat) (n : Nat) : eqB y n y n = true := decide_eq_true ⟨rfl, fun _ _ => rfl⟩

set_option maxRecDepth 100000 in
set_option maxHeartbeats 8000000 in
theorem same_calls (A B : Option Addr) (n c m d : Nat) (y z : Nat → Nat) (hy : ∀ j, y j < 256) (hz : ∀ j, z j < 256) (hn : n ≤ 100000) (w : World) (hS : Src w A n y w.heap.size) (hT : Src w B m z w.heap.size) :
    Calls Tryd.prog 8 #[.slice A n c, .slice B m d] w fun e w' => e = .returned (.bool (eqB y n z m)) ∧ Below w.heap.size w w' := by
  by_cases hnm : n = m
  · subst hnm
    have HS := veil (And.intro hS hT)
    have HY := veil (And.intro hy hz)
    obtain ⟨R, hR⟩ : ∃ R, R = eqB y n z n := ⟨_, rfl⟩
    have HR := veil hR
    rw [← hR]
    clear hS hT hy hz hR
    go_enter Tryd.func8, Tryd.ntmps8
    go_wp2
    go_loopw [5, 14] (fun v5 v14 wr => ∃ i x : Nat, i ≤ n ∧ v14 = .int .i64 (i : Int) ∧ x < 256 ∧ v5 = .int .u8 (x : Int) ∧ (x = 0 ↔ ∀ j, j < i → y j = z j) ∧ Below w.heap.size w wr)
      (fun _ v _ => n - (intOf v).toNat)
    case atStart => exact ⟨0, 0, by omega, rfl, by decide, rfl, ⟨fun _ j hj => by omega, fun _ => rfl⟩, Below.refl _ _⟩
    case round =>
      obtain ⟨i, x, hi, rfl, hx, rfl, hall, hB⟩ := hrel
      by_cases hlt : i < n
      · have hd2 : decide ((i : Int) < (n : Int)) = true := by simp; omega
        have hii : (i : Int) < (n : Int) := by omega
        have hi0 : (0 : Int) ≤ (i : Int) := by omega
        obtain ⟨b0, o0, hA, c0⟩ := src_cell HS.out.1 hB (Nat.le_refl _) hlt
        obtain ⟨b1, o1, hB', c1⟩ := src_cell HS.out.2 hB (Nat.le_refl _) hlt
        obtain ⟨Y, hY⟩ : ∃ Y, Y = y i := ⟨_, rfl⟩
        obtain ⟨Z, hZ⟩ : ∃ Z, Z = z i := ⟨_, rfl⟩
        rw [← hY] at c0
        rw [← hZ] at c1
        have hYl : Y < 256 := by rw [hY]; exact HY.out.1 i
        have hZl : Z < 256 := by rw [hZ]; exact HY.out.2 i
        have HYZ := veil (And.intro hY hZ)
        have HALL := veil hall
        subst hA hB'
        have e1 := xor8 Y Z hYl hZl
        have e2 := or8 x (Y ^^^ Z) hx (xor8_lt hYl hZl)
        have hX2 := or8_lt hx (xor8_lt hYl hZl)
        obtain ⟨U, hU⟩ : ∃ U, U = Y ^^^ Z := ⟨_, rfl⟩
        obtain ⟨V, hV⟩ : ∃ V, V = x ||| U := ⟨_, rfl⟩
        rw [← hU] at e1 e2 hX2
        rw [← hV] at e2 hX2
        have HUV := veil (And.intro hU hV)
        clear hU hV hY hZ hall
        go_upto_region 7 with (fail)
        go_quiet (fail)
        go_wp2
        go_roundw
        case rel =>
          refine ⟨i + 1, V, by omega, by go_num, hX2, rfl, ?_, below_drewN hB _⟩
          rw [HUV.out.2, or_zero, HUV.out.1, xor_nil, HYZ.out.1, HYZ.out.2, HALL.out]
          constructor
          · rintro ⟨h1, h2⟩ j hj
            by_cases e : j = i
            · rw [e]; exact h2
            · exact h1 j (by omega)
          · intro h
            exact ⟨fun j hj => h j (by omega), h i (by omega)⟩
        case measure => simp [intOf]; omega
      · have e : i = n := by omega
        have hd2 : decide ((i : Int) < (n : Int)) = false := by simp; omega
        rw [e] at hall
        have HX : Hid ((x = 0) ↔ R = true) := veil (by rw [HR.out]; unfold eqB; rw [decide_eq_true_iff]; exact hall.trans ⟨fun h => ⟨rfl, h⟩, fun h => h.2⟩)
        have hxi : x = 0 ∨ ¬ ((x : Int) = 0) := by omega
        clear hall e
        rcases hxi with h | h
        · subst h
          have hr : R = true := HX.out.1 rfl
          subst hr
          go_wp2
          go_ret
          exact ⟨rfl, hB⟩
        · have hr : R = false := by
            cases hR : R with
            | false => rfl
            | true => exact absurd (by exact_mod_cast HX.out.2 hR) h
          subst hr
          go_wp2
          go_ret
          exact ⟨by simp; omega, hB⟩
  · have hd : ¬ ((n : Int) = (m : Int)) := by omega
    have hr : eqB y n z m = false := decide_eq_false fun h => hnm h.1
    rw [hr]
    clear hr hS hT hy hz
    go_enter Tryd.func8, Tryd.ntmps8
    go_wp2
    go_ret
    exact ⟨rfl, Below.refl _ _⟩
end Go.Proofs.YtmgogcoafhompaaDoor
