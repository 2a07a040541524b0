/-
  limb.Len: how many bits a number has.
-/
import Derived.Test.YtkfomfpeangcdaaBit
namespace Go.Proofs.Ytkfomfpeangcdaa
open Go.RowKit

theorem ret_i64 {a b : Int} (h : a = b) : Ending.returned (.int .i64 a) = .returned (.int .i64 b) := by rw [h]
theorem wrap_len (k i : Nat) (hi : i < 256) (hk : k ≤ 56) : wrap64 ((k : Int) + wrap64 (bitLen i : Int)) = ((k + bitLen i : Nat) : Int) := by
  have := bitLen_le8 i hi
  rw [IntWalk.wrap64_in (bitLen i : Int) (by omega), IntWalk.wrap64_in _ (by omega)]
  omega
theorem bitLen_at (x b : Nat) (h : 2 ^ b ≤ x) : bitLen x = b + bitLen (x / 2 ^ b) :=
  bitLen_shift x b (by have := Nat.div_pos h (Nat.two_pow_pos b); omega)

set_option maxRecDepth 100000 in
set_option maxHeartbeats 400000 in
theorem len64_0 (x : Int) (hl : 0 ≤ x) (hu : x ≤ 255) (w : World) : Calls Try.prog 51 #[.int .u64 x] w fun e w' => e = .returned (.int .i64 (bitLen x.toNat)) ∧ w' = w := by
  have h1 : x ≤ 4294967295 := by omega
  have h2 : x ≤ 65535 := by omega
  have h3 : x ≤ 255 := by omega
  have h0 : 0 ≤ x := by omega
  clear hu hl
  go_enter Try.func51, Try.ntmps51
  go_wp2
  go_ret
  refine ⟨ret_i64 ?_, rfl⟩
  rw [len8tab_get]
  have h := wrap_len 0 x.toNat (by omega) (by omega)
  simpa using h

set_option maxRecDepth 100000 in
set_option maxHeartbeats 400000 in
theorem len64_8 (x : Int) (hl : 256 ≤ x) (hu : x ≤ 65535) (w : World) : Calls Try.prog 51 #[.int .u64 x] w fun e w' => e = .returned (.int .i64 (bitLen x.toNat)) ∧ w' = w := by
  have h1 : x ≤ 4294967295 := by omega
  have h2 : x ≤ 65535 := by omega
  have h3 : (256 : Int) ≤ x := by omega
  have h4 : x / 256 ≤ 255 := by omega
  have h0 : 0 ≤ x := by omega
  clear hu hl
  go_enter Try.func51, Try.ntmps51
  go_wp2
  go_ret
  refine ⟨ret_i64 ?_, rfl⟩
  rw [len8tab_get]
  have e : (x / 256).toNat = x.toNat / 2 ^ 8 := by show _ = x.toNat / 256; omega
  rw [e, bitLen_at x.toNat 8 (by show 256 ≤ x.toNat; omega)]
  exact wrap_len 8 _ (by rw [← e]; omega) (by omega)

set_option maxRecDepth 100000 in
set_option maxHeartbeats 400000 in
theorem len64_16 (x : Int) (hl : 65536 ≤ x) (hu : x ≤ 16777215) (w : World) : Calls Try.prog 51 #[.int .u64 x] w fun e w' => e = .returned (.int .i64 (bitLen x.toNat)) ∧ w' = w := by
  have h1 : x ≤ 4294967295 := by omega
  have h2 : (65536 : Int) ≤ x := by omega
  have h3 : x / 65536 ≤ 255 := by omega
  have h0 : 0 ≤ x := by omega
  clear hu hl
  go_enter Try.func51, Try.ntmps51
  go_wp2
  go_ret
  refine ⟨ret_i64 ?_, rfl⟩
  rw [len8tab_get]
  have e : (x / 65536).toNat = x.toNat / 2 ^ 16 := by show _ = x.toNat / 65536; omega
  rw [e, bitLen_at x.toNat 16 (by show 65536 ≤ x.toNat; omega)]
  exact wrap_len 16 _ (by rw [← e]; omega) (by omega)

set_option maxRecDepth 100000 in
set_option maxHeartbeats 400000 in
theorem len64_24 (x : Int) (hl : 16777216 ≤ x) (hu : x ≤ 4294967295) (w : World) : Calls Try.prog 51 #[.int .u64 x] w fun e w' => e = .returned (.int .i64 (bitLen x.toNat)) ∧ w' = w := by
  have h1 : x ≤ 4294967295 := by omega
  have h2 : (65536 : Int) ≤ x := by omega
  have h3 : (256 : Int) ≤ x / 65536 := by omega
  have h4 : x / 65536 / 256 ≤ 255 := by omega
  have h0 : 0 ≤ x := by omega
  clear hu hl
  go_enter Try.func51, Try.ntmps51
  go_wp2
  go_ret
  refine ⟨ret_i64 ?_, rfl⟩
  rw [len8tab_get]
  have e : (x / 65536 / 256).toNat = x.toNat / 2 ^ 24 := by show _ = x.toNat / 16777216; omega
  rw [e, bitLen_at x.toNat 24 (by show 16777216 ≤ x.toNat; omega)]
  exact wrap_len 24 _ (by rw [← e]; omega) (by omega)

set_option maxRecDepth 100000 in
set_option maxHeartbeats 400000 in
theorem len64_32 (x : Int) (hl : 4294967296 ≤ x) (hu : x ≤ 1099511627775) (w : World) : Calls Try.prog 51 #[.int .u64 x] w fun e w' => e = .returned (.int .i64 (bitLen x.toNat)) ∧ w' = w := by
  have h1 : (4294967296 : Int) ≤ x := by omega
  have h2 : x / 4294967296 ≤ 65535 := by omega
  have h3 : x / 4294967296 ≤ 255 := by omega
  have h0 : 0 ≤ x := by omega
  clear hu hl
  go_enter Try.func51, Try.ntmps51
  go_wp2
  go_ret
  refine ⟨ret_i64 ?_, rfl⟩
  rw [len8tab_get]
  have e : (x / 4294967296).toNat = x.toNat / 2 ^ 32 := by show _ = x.toNat / 4294967296; omega
  rw [e, bitLen_at x.toNat 32 (by show 4294967296 ≤ x.toNat; omega)]
  exact wrap_len 32 _ (by rw [← e]; omega) (by omega)

set_option maxRecDepth 100000 in
set_option maxHeartbeats 400000 in
theorem len64_40 (x : Int) (hl : 1099511627776 ≤ x) (hu : x ≤ 281474976710655) (w : World) : Calls Try.prog 51 #[.int .u64 x] w fun e w' => e = .returned (.int .i64 (bitLen x.toNat)) ∧ w' = w := by
  have h1 : (4294967296 : Int) ≤ x := by omega
  have h2 : x / 4294967296 ≤ 65535 := by omega
  have h3 : (256 : Int) ≤ x / 4294967296 := by omega
  have h4 : x / 4294967296 / 256 ≤ 255 := by omega
  have h0 : 0 ≤ x := by omega
  clear hu hl
  go_enter Try.func51, Try.ntmps51
  go_wp2
  go_ret
  refine ⟨ret_i64 ?_, rfl⟩
  rw [len8tab_get]
  have e : (x / 4294967296 / 256).toNat = x.toNat / 2 ^ 40 := by show _ = x.toNat / 1099511627776; omega
  rw [e, bitLen_at x.toNat 40 (by show 1099511627776 ≤ x.toNat; omega)]
  exact wrap_len 40 _ (by rw [← e]; omega) (by omega)

set_option maxRecDepth 100000 in
set_option maxHeartbeats 400000 in
theorem len64_48 (x : Int) (hl : 281474976710656 ≤ x) (hu : x ≤ 72057594037927935) (w : World) : Calls Try.prog 51 #[.int .u64 x] w fun e w' => e = .returned (.int .i64 (bitLen x.toNat)) ∧ w' = w := by
  have h1 : (4294967296 : Int) ≤ x := by omega
  have h2 : (65536 : Int) ≤ x / 4294967296 := by omega
  have h3 : x / 4294967296 / 65536 ≤ 255 := by omega
  have h0 : 0 ≤ x := by omega
  clear hu hl
  go_enter Try.func51, Try.ntmps51
  go_wp2
  go_ret
  refine ⟨ret_i64 ?_, rfl⟩
  rw [len8tab_get]
  have e : (x / 4294967296 / 65536).toNat = x.toNat / 2 ^ 48 := by show _ = x.toNat / 281474976710656; omega
  rw [e, bitLen_at x.toNat 48 (by show 281474976710656 ≤ x.toNat; omega)]
  exact wrap_len 48 _ (by rw [← e]; omega) (by omega)

set_option maxRecDepth 100000 in
set_option maxHeartbeats 400000 in
theorem len64_56 (x : Int) (hl : 72057594037927936 ≤ x) (hu : x ≤ 18446744073709551615) (w : World) : Calls Try.prog 51 #[.int .u64 x] w fun e w' => e = .returned (.int .i64 (bitLen x.toNat)) ∧ w' = w := by
  have h1 : (4294967296 : Int) ≤ x := by omega
  have h2 : (65536 : Int) ≤ x / 4294967296 := by omega
  have h3 : (256 : Int) ≤ x / 4294967296 / 65536 := by omega
  have h4 : x / 4294967296 / 65536 / 256 ≤ 255 := by omega
  have h0 : 0 ≤ x := by omega
  clear hu hl
  go_enter Try.func51, Try.ntmps51
  go_wp2
  go_ret
  refine ⟨ret_i64 ?_, rfl⟩
  rw [len8tab_get]
  have e : (x / 4294967296 / 65536 / 256).toNat = x.toNat / 2 ^ 56 := by show _ = x.toNat / 72057594037927936; omega
  rw [e, bitLen_at x.toNat 56 (by show 72057594037927936 ≤ x.toNat; omega)]
  exact wrap_len 56 _ (by rw [← e]; omega) (by omega)

theorem len64_calls (x : Int) (h0 : 0 ≤ x) (h1 : x ≤ 18446744073709551615) (w : World) : Calls Try.prog 51 #[.int .u64 x] w fun e w' => e = .returned (.int .i64 (bitLen x.toNat)) ∧ w' = w := by
  by_cases a : x ≤ 4294967295
  · by_cases b : x ≤ 65535
    · by_cases c : x ≤ 255
      · exact len64_0 x (by omega) (by omega) w
      · exact len64_8 x (by omega) (by omega) w
    · by_cases c : x ≤ 16777215
      · exact len64_16 x (by omega) (by omega) w
      · exact len64_24 x (by omega) (by omega) w
  · by_cases b : x ≤ 281474976710655
    · by_cases c : x ≤ 1099511627775
      · exact len64_32 x (by omega) (by omega) w
      · exact len64_40 x (by omega) (by omega) w
    · by_cases c : x ≤ 72057594037927935
      · exact len64_48 x (by omega) (by omega) w
      · exact len64_56 x (by omega) (by omega) w

theorem high_zero {X m : Nat} (hX : X < top) (h : ∀ j, m ≤ j → j < 4 → dg w64 X j = 0) : X < w64 ^ m := by
  have hp : 0 < w64 ^ m := Nat.pow_pos w64_pos
  have e : X % w64 ^ 4 = X % w64 ^ m % w64 ^ 4 := eq_of_dg w64_pos 4 fun i hi => by
    by_cases hlt : i < m
    · rw [dg_mod X m i hlt]
    · rw [h i (by omega) hi]
      unfold dg
      rw [Nat.div_eq_of_lt (Nat.lt_of_lt_of_le (Nat.mod_lt _ hp) (Nat.pow_le_pow_right w64_pos (by omega)))]
      rfl
  rw [Nat.mod_eq_of_lt (show X < w64 ^ 4 from hX)] at e
  have h1 := Nat.mod_le (X % w64 ^ m) (w64 ^ 4)
  have h2 := Nat.mod_lt X hp
  omega
theorem len_word {X m : Nat} (hX : X < top) (h : ∀ j, m + 1 ≤ j → j < 4 → dg w64 X j = 0) (hne : dg w64 X m ≠ 0) : bitLen X = 64 * m + bitLen (dg w64 X m) := by
  have hlt := high_zero hX h
  have hd : X / w64 ^ m = dg w64 X m := by
    rw [dg, Nat.mod_eq_of_lt]
    rw [Nat.div_lt_iff_lt_mul (Nat.pow_pos w64_pos), Nat.mul_comm, ← Nat.pow_succ]
    exact hlt
  have e : 2 ^ (64 * m) = w64 ^ m := by rw [w64_two, ← Nat.pow_mul]
  rw [← hd] at hne ⊢
  have h1 := bitLen_shift X (64 * m) (by rw [e]; exact hne)
  rw [e] at h1
  exact h1
theorem wd_toNat (X i : Nat) : (wd X i).toNat = dg w64 X i := by unfold wd; omega
theorem bitLen_le64 (X i : Nat) : bitLen (dg w64 X i) ≤ 64 := by
  unfold bitLen
  split
  · omega
  · rename_i h
    have := (Nat.log2_lt h).2 (show dg w64 X i < 2 ^ 64 from dg_lt w64_pos X i)
    omega

set_option maxHeartbeats 1000000 in
theorem len_calls (X : Nat) (hX : X < top) (w : World) :
    Calls Try.prog 39 #[.agg #[.int .u64 (wd (X) 0), .int .u64 (wd (X) 1), .int .u64 (wd (X) 2), .int .u64 (wd (X) 3)]] w fun e w' => e = .returned (.int .i64 (bitLen X)) ∧ Below w.heap.size w w' := by
  go_enter Try.func39, Try.ntmps39
  go_wp2
  go_loopw [3] (fun i wr => ∃ k : Nat, k ≤ 4 ∧ i = .int .i64 ((k : Int) - 1) ∧ (∀ j, k ≤ j → j < 4 → dg w64 X j = 0) ∧ wr.rowIs w.heap.size 24 4 (fun j => .int .u64 (wd X j)) ∧ Below w.heap.size w wr)
    (fun i _ => (intOf i + 1).toNat)
  case atStart => exact ⟨4, by omega, rfl, by intro j h1 h2; omega, row_new (n := 4) (by simp) rfl (arr4 fun j => .int .u64 (wd X j)), (Below.refl _ _).alloc (by simp) _⟩
  case round =>
    obtain ⟨k, hk, hi, hall, hR, hbel⟩ := hrel
    have HALL := veil hall
    clear hall
    cases k with
    | zero =>
      subst hi
      have h1 := high_zero hX HALL.out
      have hX0 : X = 0 := by simpa using h1
      have HX := veil hX0
      clear hX0 h1
      go_wp2
      go_ret
      rw [show bitLen X = 0 by rw [HX.out]; rfl]
      exact ⟨rfl, hbel⟩
    | succ m =>
      obtain rfl : _ = Value.int .i64 (m : Int) := hi.trans (by congr 1; omega)
      have hm : m < 4 := by omega
      clear hi
      have c1 := hR.cell hm
      have l1 := wd_lo X m
      have u1 := wd_le X m
      by_cases h : dg w64 X m = 0
      · have hz : (wd X m != 0) = false := by unfold wd; rw [h]; rfl
        go_wp2
        go_roundw
        case rel => exact ⟨m, by omega, rfl, fun j h1 h2 => by
          by_cases e : j = m
          · rw [e]; exact h
          · exact HALL.out j (by omega) h2, hR, hbel⟩
        case measure => simp [intOf]
      · have hz : (wd X m != 0) = true := by rw [bne_iff_ne]; unfold wd; omega
        have hw := len_word hX HALL.out h
        have hb := bitLen_le64 X m
        have ht := wd_toNat X m
        have HW := veil hw
        have HT := veil ht
        clear hw h ht
        go_wp2_with (go_at_call 51; refine (len64_calls _ l1 u1 _).mono ?_; rintro e w' ⟨rfl, rfl⟩)
        rw [HT.out]
        go_wp2
        go_ret
        rw [HW.out]
        exact ⟨ret_i64 (by rw [IntWalk.wrap64_in _ (by omega)]; omega), hbel⟩

theorem top_two : top = 2 ^ 256 := by unfold top; rw [w64_two, ← Nat.pow_mul]
end Go.Proofs.Ytkfomfpeangcdaa
