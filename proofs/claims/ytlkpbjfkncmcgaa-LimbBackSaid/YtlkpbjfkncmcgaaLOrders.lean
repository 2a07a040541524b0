/-
  LimbOrders: for any two numbers: which is below is what is left when one is taken from the other, both ways round; a number has as many bits as its highest one says.
  No condition.
-/
import Derived.Test.YtlkpbjfkncmcgaaLen
import Derived.Test.YtlkpbjfkncmcgaaCmp
import Derived.Test.YtlkpbjfkncmcgaaSub
import Derived.Test.YtlkpbjfkncmcgaaUp
import Derived.Test.YtlkpbjfkncmcgaaEql
import Derived.Test.YtlkpbjfkncmcgaaFrame
namespace Go.Proofs.Ytlkpbjfkncmcgaa
open Go.RowKit

theorem cmp_is (X Y : Nat) (c : Int) (h : cmpN X Y = c) (hX : X < top) (hY : Y < top) (w : World) :
    Calls Try.prog 15 #[.agg #[.int .u64 (wd (X) 0), .int .u64 (wd (X) 1), .int .u64 (wd (X) 2), .int .u64 (wd (X) 3)], .agg #[.int .u64 (wd (Y) 0), .int .u64 (wd (Y) 1), .int .u64 (wd (Y) 2), .int .u64 (wd (Y) 3)]] w fun e w' => e = .returned (.int .i64 c) ∧ Below w.heap.size w w' := by
  subst h; exact cmp_calls X Y hX hY w
theorem sub_is (X Y : Nat) (u : Bool) (h : decide (X < Y) = u) (hX : X < top) (hY : Y < top) (w : World) :
    Calls Try.prog 12 #[.agg #[.int .u64 (wd (X) 0), .int .u64 (wd (X) 1), .int .u64 (wd (X) 2), .int .u64 (wd (X) 3)], .agg #[.int .u64 (wd (Y) 0), .int .u64 (wd (Y) 1), .int .u64 (wd (Y) 2), .int .u64 (wd (Y) 3)]] w fun e w' => e = .returned (.tuple #[.agg #[.int .u64 (wd ((X + top - Y) % top) 0), .int .u64 (wd ((X + top - Y) % top) 1), .int .u64 (wd ((X + top - Y) % top) 2), .int .u64 (wd ((X + top - Y) % top) 3)], .bool u]) ∧ Below w.heap.size w w' := by
  subst h; exact sub_calls X Y hX hY w
theorem len_is (X : Nat) (m : Int) (h : (bitLen X : Int) = m) (hX : X < top) (w : World) :
    Calls Try.prog 23 #[.agg #[.int .u64 (wd (X) 0), .int .u64 (wd (X) 1), .int .u64 (wd (X) 2), .int .u64 (wd (X) 3)]] w fun e w' => e = .returned (.int .i64 m) ∧ Below w.heap.size w w' := by
  subst h; exact len_calls X hX w
theorem bit_is (X n : Nat) (b : Bool) (h : bit X n = b) (hn : n < 256) (w : World) :
    Calls Try.prog 21 #[.agg #[.int .u64 (wd (X) 0), .int .u64 (wd (X) 1), .int .u64 (wd (X) 2), .int .u64 (wd (X) 3)], .int .i64 (n : Int)] w fun e w' => e = .returned (.bool b) ∧ Below w.heap.size w w' := by
  subst h; exact bit_in X n hn w

theorem bit_high {X n : Nat} (h : bitLen X ≤ n) : bit X n = false := by
  have h1 := (bitLen_spec X).1
  have h2 : 2 ^ bitLen X ≤ 2 ^ n := Nat.pow_le_pow_right (by omega) h
  unfold bit
  rw [Nat.div_eq_of_lt (by omega)]
  rfl
theorem bit_last {X p : Nat} (h : bitLen X = p + 1) : bit X p = true := by
  have h0 : X ≠ 0 := by rintro rfl; simp [bitLen] at h
  obtain ⟨h1, h2⟩ := bitLen_spec X
  rw [h] at h1 h2
  have h3 := h2 h0
  rw [Nat.add_sub_cancel] at h3
  have hp := Nat.two_pow_pos p
  have : X / 2 ^ p = 1 := by
    apply Nat.le_antisymm
    · have := (Nat.div_lt_iff_lt_mul hp (x := X) (y := 2)).2 (by rw [Nat.pow_succ] at h1; omega)
      omega
    · exact (Nat.le_div_iff_mul_le hp).2 (by omega)
  unfold bit
  rw [this]
  rfl
theorem bitLen_256 {X : Nat} (hX : X < top) : bitLen X ≤ 256 := by
  rw [top_two] at hX
  unfold bitLen
  split
  · omega
  · rename_i h
    have := (Nat.log2_lt h).2 hX
    omega
theorem cmpN_turn (X Y : Nat) : cmpN Y X = -cmpN X Y := by
  unfold cmpN
  by_cases h : X < Y
  · rw [if_neg (by omega), if_pos h, if_pos h]; rfl
  · by_cases h2 : Y < X
    · rw [if_pos h2, if_neg h, if_pos h2]
    · rw [if_neg h2, if_neg h, if_neg h, if_neg h2]; rfl

set_option maxRecDepth 100000 in
set_option maxHeartbeats 2000000 in
theorem orders_lt0 (X Y : Nat) (hX : X < top) (hY : Y < top) (hc : cmpN X Y = (-1)) (hu : decide (X < Y) = true) (he : decide (X = Y) = false) (hz : X = 0) (hl : bitLen X = 0) (w : World) :
    Calls Try.prog 8 #[.agg #[.int .u64 (wd (X) 0), .int .u64 (wd (X) 1), .int .u64 (wd (X) 2), .int .u64 (wd (X) 3)], .agg #[.int .u64 (wd (Y) 0), .int .u64 (wd (Y) 1), .int .u64 (wd (Y) 2), .int .u64 (wd (Y) 3)]] w fun e w' => e = .returned (.bool true) ∧ Below w.heap.size w w' := by
  have hRA : ((w.alloc (.cells #[.int .u64 (wd (X) 0), .int .u64 (wd (X) 1), .int .u64 (wd (X) 2), .int .u64 (wd (X) 3)] 24)).alloc (.cells #[.int .u64 (wd (Y) 0), .int .u64 (wd (Y) 1), .int .u64 (wd (Y) 2), .int .u64 (wd (Y) 3)] 24)).rowIs w.heap.size 24 4 (fun j => .int .u64 (wd X j)) := (row_new (n := 4) (by simp) rfl (arr4 fun j => .int .u64 (wd X j))).alloc _
  have hRB : ((w.alloc (.cells #[.int .u64 (wd (X) 0), .int .u64 (wd (X) 1), .int .u64 (wd (X) 2), .int .u64 (wd (X) 3)] 24)).alloc (.cells #[.int .u64 (wd (Y) 0), .int .u64 (wd (Y) 1), .int .u64 (wd (Y) 2), .int .u64 (wd (Y) 3)] 24)).rowIs (w.heap.size + 1) 24 4 (fun j => .int .u64 (wd Y j)) := row_new (n := 4) (by simp) rfl (arr4 fun j => .int .u64 (wd Y j))
  have hB0 : Below w.heap.size w ((w.alloc (.cells #[.int .u64 (wd (X) 0), .int .u64 (wd (X) 1), .int .u64 (wd (X) 2), .int .u64 (wd (X) 3)] 24)).alloc (.cells #[.int .u64 (wd (Y) 0), .int .u64 (wd (Y) 1), .int .u64 (wd (Y) 2), .int .u64 (wd (Y) 3)] 24)) := ((Below.refl _ _).alloc (by simp) _).alloc (by simp) _
  have k1 : ∀ W, (binOp .eql 24 (.agg #[.int .u64 (wd (X) 0), .int .u64 (wd (X) 1), .int .u64 (wd (X) 2), .int .u64 (wd (X) 3)]) (.agg #[.int .u64 (wd (Y) 0), .int .u64 (wd (Y) 1), .int .u64 (wd (Y) 2), .int .u64 (wd (Y) 3)])).run Try.prog W = .ok (.bool false) W := fun W => by rw [eql_num hX hY, he]
  have k2 : ∀ W, (binOp .eql 24 (.agg #[.int .u64 (wd (X) 0), .int .u64 (wd (X) 1), .int .u64 (wd (X) 2), .int .u64 (wd (X) 3)]) (.agg #[.int .u64 0, .int .u64 0, .int .u64 0, .int .u64 0])).run Try.prog W = .ok (.bool true) W := fun W => by
    have h := eql_num hX top_pos W
    have hd : decide (X = 0) = true := by simp [hz]
    rw [hd] at h
    simp only [wd_zero] at h
    exact h
  have HC := veil hc
  have HU := veil hu
  have HL := veil hl
  clear hc hu he hz hl
  go_enter Try.func8, Try.ntmps8
  go_wp2_with fail
  refine (up_calls _).mono ?_
  rintro e w1 ⟨rfl, hb1⟩
  have hRA1 := row_below hRA hb1 hRA.lt
  have hRB1 := row_below hRB hb1 hRB.lt
  have hB1 := hB0.trans (hb1.mono hB0.size)
  clear hRA hRB hB0 hb1
  obtain ⟨a0, a1, a2, a3⟩ := row_c4 hRA1
  obtain ⟨b0, b1, b2, b3⟩ := row_c4 hRB1
  go_wp2_with fail
  refine (cmp_is X Y (-1) HC.out hX hY _).mono ?_
  rintro e w2 ⟨rfl, hb2⟩
  clear a0 a1 a2 a3 b0 b1 b2 b3
  have hRA2 := row_below hRA1 hb2 hRA1.lt
  have hRB2 := row_below hRB1 hb2 hRB1.lt
  have hB2 := hB1.trans (hb2.mono hB1.size)
  clear hRA1 hRB1 hB1 hb2
  obtain ⟨a0, a1, a2, a3⟩ := row_c4 hRA2
  obtain ⟨b0, b1, b2, b3⟩ := row_c4 hRB2
  go_wp2_with fail
  refine (sub_is X Y true HU.out hX hY _).mono ?_
  rintro e w3 ⟨rfl, hb3⟩
  clear a0 a1 a2 a3 b0 b1 b2 b3
  have hRA3 := (row_below hRA2 hb3 hRA2.lt).alloc (.cells #[.int .u64 (wd ((X + top - Y) % top) 0), .int .u64 (wd ((X + top - Y) % top) 1), .int .u64 (wd ((X + top - Y) % top) 2), .int .u64 (wd ((X + top - Y) % top) 3)] 24)
  have hRB3 := (row_below hRB2 hb3 hRB2.lt).alloc (.cells #[.int .u64 (wd ((X + top - Y) % top) 0), .int .u64 (wd ((X + top - Y) % top) 1), .int .u64 (wd ((X + top - Y) % top) 2), .int .u64 (wd ((X + top - Y) % top) 3)] 24)
  have hB3 := hB2.trans (hb3.mono hB2.size)
  have hB3 := hB3.alloc hB3.size (.cells #[.int .u64 (wd ((X + top - Y) % top) 0), .int .u64 (wd ((X + top - Y) % top) 1), .int .u64 (wd ((X + top - Y) % top) 2), .int .u64 (wd ((X + top - Y) % top) 3)] 24)
  have s1 := (row_below hRA2 hb3 hRA2.lt).lt
  clear hRA2 hRB2 hB2 hb3
  obtain ⟨a0, a1, a2, a3⟩ := row_c4 hRA3
  go_wp2_with fail
  refine (len_is X 0 (by rw [HL.out]; rfl) hX _).mono ?_
  rintro e w4 ⟨rfl, hb4⟩
  clear a0 a1 a2 a3
  have hRA4 := row_below hRA3 hb4 hRA3.lt
  have hRB4 := row_below hRB3 hb4 hRB3.lt
  have hB4 := hB3.trans (hb4.mono hB3.size)
  clear hRA3 hRB3 hB3 hb4 s1
  go_wp2
  go_loopw [10] (fun i wr => ∃ k : Nat, 0 ≤ k ∧ k ≤ 256 ∧ i = .int .i64 k ∧ wr.rowIs w.heap.size 24 4 (fun j => .int .u64 (wd X j)) ∧ wr.rowIs (w.heap.size + 1) 24 4 (fun j => .int .u64 (wd Y j)) ∧ Below w.heap.size w wr)
    (fun i _ => 256 - (intOf i).toNat)
  case atStart => exact ⟨0, Nat.le_refl _, by omega, rfl, hRA4, hRB4, hB4⟩
  case round =>
    clear hRA4 hRB4 hB4
    obtain ⟨k, hk0, hk, rfl, hRA, hRB, hbel⟩ := hrel
    obtain ⟨a0, a1, a2, a3⟩ := row_c4 hRA
    obtain ⟨b0, b1, b2, b3⟩ := row_c4 hRB
    by_cases hlt : k < 256
    · have hbit : bit X k = false := bit_high (by rw [HL.out]; exact hk0)
      have hle : (k : Int) ≤ 255 := by omega
      have HB := veil hbit
      have HLT := veil hlt
      have HK := veil hk0
      clear hbit hlt hk hk0
      go_wp2_with fail
      refine (bit_is X k false HB.out HLT.out _).mono ?_
      rintro e w5 ⟨rfl, hb5⟩
      go_wp2
      go_roundw
      case rel => exact ⟨k + 1, Nat.le_succ_of_le HK.out, HLT.out, by go_num, row_below hRA hb5 hRA.lt, row_below hRB hb5 hRB.lt, hbel.trans (hb5.mono hbel.size)⟩
      case measure => simp [intOf]; omega
    · obtain rfl : k = 256 := by omega
      go_wp2_with fail
      refine (cmp_is Y X (1) (by have h := cmpN_turn X Y; rw [HC.out] at h; exact h) hY hX _).mono ?_
      rintro e w5 ⟨rfl, hb5⟩
      clear a0 a1 a2 a3 b0 b1 b2 b3
      have hRA5 := row_below hRA hb5 hRA.lt
      have hRB5 := row_below hRB hb5 hRB.lt
      have hB5 := hbel.trans (hb5.mono hbel.size)
      clear hRA hRB hbel hb5
      obtain ⟨a0, a1, a2, a3⟩ := row_c4 hRA5
      obtain ⟨b0, b1, b2, b3⟩ := row_c4 hRB5
      go_wp2
      go_ret
      exact ⟨rfl, hB5⟩

set_option maxRecDepth 100000 in
set_option maxHeartbeats 2000000 in
theorem orders_lt (X Y : Nat) (hX : X < top) (hY : Y < top) (hc : cmpN X Y = (-1)) (hu : decide (X < Y) = true) (he : decide (X = Y) = false) (hz : ¬ X = 0) (p : Nat) (hp : p ≤ 255) (hl : bitLen X = p + 1) (w : World) :
    Calls Try.prog 8 #[.agg #[.int .u64 (wd (X) 0), .int .u64 (wd (X) 1), .int .u64 (wd (X) 2), .int .u64 (wd (X) 3)], .agg #[.int .u64 (wd (Y) 0), .int .u64 (wd (Y) 1), .int .u64 (wd (Y) 2), .int .u64 (wd (Y) 3)]] w fun e w' => e = .returned (.bool true) ∧ Below w.heap.size w w' := by
  have hRA : ((w.alloc (.cells #[.int .u64 (wd (X) 0), .int .u64 (wd (X) 1), .int .u64 (wd (X) 2), .int .u64 (wd (X) 3)] 24)).alloc (.cells #[.int .u64 (wd (Y) 0), .int .u64 (wd (Y) 1), .int .u64 (wd (Y) 2), .int .u64 (wd (Y) 3)] 24)).rowIs w.heap.size 24 4 (fun j => .int .u64 (wd X j)) := (row_new (n := 4) (by simp) rfl (arr4 fun j => .int .u64 (wd X j))).alloc _
  have hRB : ((w.alloc (.cells #[.int .u64 (wd (X) 0), .int .u64 (wd (X) 1), .int .u64 (wd (X) 2), .int .u64 (wd (X) 3)] 24)).alloc (.cells #[.int .u64 (wd (Y) 0), .int .u64 (wd (Y) 1), .int .u64 (wd (Y) 2), .int .u64 (wd (Y) 3)] 24)).rowIs (w.heap.size + 1) 24 4 (fun j => .int .u64 (wd Y j)) := row_new (n := 4) (by simp) rfl (arr4 fun j => .int .u64 (wd Y j))
  have hB0 : Below w.heap.size w ((w.alloc (.cells #[.int .u64 (wd (X) 0), .int .u64 (wd (X) 1), .int .u64 (wd (X) 2), .int .u64 (wd (X) 3)] 24)).alloc (.cells #[.int .u64 (wd (Y) 0), .int .u64 (wd (Y) 1), .int .u64 (wd (Y) 2), .int .u64 (wd (Y) 3)] 24)) := ((Below.refl _ _).alloc (by simp) _).alloc (by simp) _
  have k1 : ∀ W, (binOp .eql 24 (.agg #[.int .u64 (wd (X) 0), .int .u64 (wd (X) 1), .int .u64 (wd (X) 2), .int .u64 (wd (X) 3)]) (.agg #[.int .u64 (wd (Y) 0), .int .u64 (wd (Y) 1), .int .u64 (wd (Y) 2), .int .u64 (wd (Y) 3)])).run Try.prog W = .ok (.bool false) W := fun W => by rw [eql_num hX hY, he]
  have k2 : ∀ W, (binOp .eql 24 (.agg #[.int .u64 (wd (X) 0), .int .u64 (wd (X) 1), .int .u64 (wd (X) 2), .int .u64 (wd (X) 3)]) (.agg #[.int .u64 0, .int .u64 0, .int .u64 0, .int .u64 0])).run Try.prog W = .ok (.bool false) W := fun W => by
    have h := eql_num hX top_pos W
    have hd : decide (X = 0) = false := by simp [hz]
    rw [hd] at h
    simp only [wd_zero] at h
    exact h
  have HC := veil hc
  have HU := veil hu
  have HL := veil hl
  clear hc hu he hz hl
  go_enter Try.func8, Try.ntmps8
  go_wp2_with fail
  refine (up_calls _).mono ?_
  rintro e w1 ⟨rfl, hb1⟩
  have hRA1 := row_below hRA hb1 hRA.lt
  have hRB1 := row_below hRB hb1 hRB.lt
  have hB1 := hB0.trans (hb1.mono hB0.size)
  clear hRA hRB hB0 hb1
  obtain ⟨a0, a1, a2, a3⟩ := row_c4 hRA1
  obtain ⟨b0, b1, b2, b3⟩ := row_c4 hRB1
  go_wp2_with fail
  refine (cmp_is X Y (-1) HC.out hX hY _).mono ?_
  rintro e w2 ⟨rfl, hb2⟩
  clear a0 a1 a2 a3 b0 b1 b2 b3
  have hRA2 := row_below hRA1 hb2 hRA1.lt
  have hRB2 := row_below hRB1 hb2 hRB1.lt
  have hB2 := hB1.trans (hb2.mono hB1.size)
  clear hRA1 hRB1 hB1 hb2
  obtain ⟨a0, a1, a2, a3⟩ := row_c4 hRA2
  obtain ⟨b0, b1, b2, b3⟩ := row_c4 hRB2
  go_wp2_with fail
  refine (sub_is X Y true HU.out hX hY _).mono ?_
  rintro e w3 ⟨rfl, hb3⟩
  clear a0 a1 a2 a3 b0 b1 b2 b3
  have hRA3 := (row_below hRA2 hb3 hRA2.lt).alloc (.cells #[.int .u64 (wd ((X + top - Y) % top) 0), .int .u64 (wd ((X + top - Y) % top) 1), .int .u64 (wd ((X + top - Y) % top) 2), .int .u64 (wd ((X + top - Y) % top) 3)] 24)
  have hRB3 := (row_below hRB2 hb3 hRB2.lt).alloc (.cells #[.int .u64 (wd ((X + top - Y) % top) 0), .int .u64 (wd ((X + top - Y) % top) 1), .int .u64 (wd ((X + top - Y) % top) 2), .int .u64 (wd ((X + top - Y) % top) 3)] 24)
  have hB3 := hB2.trans (hb3.mono hB2.size)
  have hB3 := hB3.alloc hB3.size (.cells #[.int .u64 (wd ((X + top - Y) % top) 0), .int .u64 (wd ((X + top - Y) % top) 1), .int .u64 (wd ((X + top - Y) % top) 2), .int .u64 (wd ((X + top - Y) % top) 3)] 24)
  have s1 := (row_below hRA2 hb3 hRA2.lt).lt
  clear hRA2 hRB2 hB2 hb3
  obtain ⟨a0, a1, a2, a3⟩ := row_c4 hRA3
  go_wp2_with fail
  refine (len_is X ((p : Int) + 1) (by rw [HL.out]; rfl) hX _).mono ?_
  rintro e w4 ⟨rfl, hb4⟩
  clear a0 a1 a2 a3
  have hRA4 := row_below hRA3 hb4 hRA3.lt
  have hRB4 := row_below hRB3 hb4 hRB3.lt
  have hB4 := hB3.trans (hb4.mono hB3.size)
  clear hRA3 hRB3 hB3 hb4 s1
  go_wp2
  go_loopw [10] (fun i wr => ∃ k : Nat, p + 1 ≤ k ∧ k ≤ 256 ∧ i = .int .i64 k ∧ wr.rowIs w.heap.size 24 4 (fun j => .int .u64 (wd X j)) ∧ wr.rowIs (w.heap.size + 1) 24 4 (fun j => .int .u64 (wd Y j)) ∧ Below w.heap.size w wr)
    (fun i _ => 256 - (intOf i).toNat)
  case atStart => exact ⟨p + 1, Nat.le_refl _, by omega, rfl, hRA4, hRB4, hB4⟩
  case round =>
    clear hRA4 hRB4 hB4
    obtain ⟨k, hk0, hk, rfl, hRA, hRB, hbel⟩ := hrel
    obtain ⟨a0, a1, a2, a3⟩ := row_c4 hRA
    obtain ⟨b0, b1, b2, b3⟩ := row_c4 hRB
    by_cases hlt : k < 256
    · have hbit : bit X k = false := bit_high (by rw [HL.out]; exact hk0)
      have hle : (k : Int) ≤ 255 := by omega
      have HB := veil hbit
      have HLT := veil hlt
      have HK := veil hk0
      clear hbit hlt hk hk0
      go_wp2_with fail
      refine (bit_is X k false HB.out HLT.out _).mono ?_
      rintro e w5 ⟨rfl, hb5⟩
      go_wp2
      go_roundw
      case rel => exact ⟨k + 1, Nat.le_succ_of_le HK.out, HLT.out, by go_num, row_below hRA hb5 hRA.lt, row_below hRB hb5 hRB.lt, hbel.trans (hb5.mono hbel.size)⟩
      case measure => simp [intOf]; omega
    · obtain rfl : k = 256 := by omega
      go_wp2_with fail
      refine (cmp_is Y X (1) (by have h := cmpN_turn X Y; rw [HC.out] at h; exact h) hY hX _).mono ?_
      rintro e w5 ⟨rfl, hb5⟩
      clear a0 a1 a2 a3 b0 b1 b2 b3
      have hRA5 := row_below hRA hb5 hRA.lt
      have hRB5 := row_below hRB hb5 hRB.lt
      have hB5 := hbel.trans (hb5.mono hbel.size)
      clear hRA hRB hbel hb5
      obtain ⟨a0, a1, a2, a3⟩ := row_c4 hRA5
      obtain ⟨b0, b1, b2, b3⟩ := row_c4 hRB5
      go_wp2_with fail
      refine (bit_is X p true (bit_last HL.out) (by omega) _).mono ?_
      rintro e w6 ⟨rfl, hb6⟩
      go_wp2
      go_ret
      exact ⟨rfl, hB5.trans (hb6.mono hB5.size)⟩

set_option maxRecDepth 100000 in
set_option maxHeartbeats 2000000 in
theorem orders_eq0 (X Y : Nat) (hX : X < top) (hY : Y < top) (hc : cmpN X Y = 0) (hu : decide (X < Y) = false) (he : decide (X = Y) = true) (hz : X = 0) (hl : bitLen X = 0) (w : World) :
    Calls Try.prog 8 #[.agg #[.int .u64 (wd (X) 0), .int .u64 (wd (X) 1), .int .u64 (wd (X) 2), .int .u64 (wd (X) 3)], .agg #[.int .u64 (wd (Y) 0), .int .u64 (wd (Y) 1), .int .u64 (wd (Y) 2), .int .u64 (wd (Y) 3)]] w fun e w' => e = .returned (.bool true) ∧ Below w.heap.size w w' := by
  have hRA : ((w.alloc (.cells #[.int .u64 (wd (X) 0), .int .u64 (wd (X) 1), .int .u64 (wd (X) 2), .int .u64 (wd (X) 3)] 24)).alloc (.cells #[.int .u64 (wd (Y) 0), .int .u64 (wd (Y) 1), .int .u64 (wd (Y) 2), .int .u64 (wd (Y) 3)] 24)).rowIs w.heap.size 24 4 (fun j => .int .u64 (wd X j)) := (row_new (n := 4) (by simp) rfl (arr4 fun j => .int .u64 (wd X j))).alloc _
  have hRB : ((w.alloc (.cells #[.int .u64 (wd (X) 0), .int .u64 (wd (X) 1), .int .u64 (wd (X) 2), .int .u64 (wd (X) 3)] 24)).alloc (.cells #[.int .u64 (wd (Y) 0), .int .u64 (wd (Y) 1), .int .u64 (wd (Y) 2), .int .u64 (wd (Y) 3)] 24)).rowIs (w.heap.size + 1) 24 4 (fun j => .int .u64 (wd Y j)) := row_new (n := 4) (by simp) rfl (arr4 fun j => .int .u64 (wd Y j))
  have hB0 : Below w.heap.size w ((w.alloc (.cells #[.int .u64 (wd (X) 0), .int .u64 (wd (X) 1), .int .u64 (wd (X) 2), .int .u64 (wd (X) 3)] 24)).alloc (.cells #[.int .u64 (wd (Y) 0), .int .u64 (wd (Y) 1), .int .u64 (wd (Y) 2), .int .u64 (wd (Y) 3)] 24)) := ((Below.refl _ _).alloc (by simp) _).alloc (by simp) _
  have k1 : ∀ W, (binOp .eql 24 (.agg #[.int .u64 (wd (X) 0), .int .u64 (wd (X) 1), .int .u64 (wd (X) 2), .int .u64 (wd (X) 3)]) (.agg #[.int .u64 (wd (Y) 0), .int .u64 (wd (Y) 1), .int .u64 (wd (Y) 2), .int .u64 (wd (Y) 3)])).run Try.prog W = .ok (.bool true) W := fun W => by rw [eql_num hX hY, he]
  have k2 : ∀ W, (binOp .eql 24 (.agg #[.int .u64 (wd (X) 0), .int .u64 (wd (X) 1), .int .u64 (wd (X) 2), .int .u64 (wd (X) 3)]) (.agg #[.int .u64 0, .int .u64 0, .int .u64 0, .int .u64 0])).run Try.prog W = .ok (.bool true) W := fun W => by
    have h := eql_num hX top_pos W
    have hd : decide (X = 0) = true := by simp [hz]
    rw [hd] at h
    simp only [wd_zero] at h
    exact h
  have HC := veil hc
  have HU := veil hu
  have HL := veil hl
  clear hc hu he hz hl
  go_enter Try.func8, Try.ntmps8
  go_wp2_with fail
  refine (up_calls _).mono ?_
  rintro e w1 ⟨rfl, hb1⟩
  have hRA1 := row_below hRA hb1 hRA.lt
  have hRB1 := row_below hRB hb1 hRB.lt
  have hB1 := hB0.trans (hb1.mono hB0.size)
  clear hRA hRB hB0 hb1
  obtain ⟨a0, a1, a2, a3⟩ := row_c4 hRA1
  obtain ⟨b0, b1, b2, b3⟩ := row_c4 hRB1
  go_wp2_with fail
  refine (cmp_is X Y 0 HC.out hX hY _).mono ?_
  rintro e w2 ⟨rfl, hb2⟩
  clear a0 a1 a2 a3 b0 b1 b2 b3
  have hRA2 := row_below hRA1 hb2 hRA1.lt
  have hRB2 := row_below hRB1 hb2 hRB1.lt
  have hB2 := hB1.trans (hb2.mono hB1.size)
  clear hRA1 hRB1 hB1 hb2
  obtain ⟨a0, a1, a2, a3⟩ := row_c4 hRA2
  obtain ⟨b0, b1, b2, b3⟩ := row_c4 hRB2
  go_wp2_with fail
  refine (sub_is X Y false HU.out hX hY _).mono ?_
  rintro e w3 ⟨rfl, hb3⟩
  clear a0 a1 a2 a3 b0 b1 b2 b3
  have hRA3 := (row_below hRA2 hb3 hRA2.lt).alloc (.cells #[.int .u64 (wd ((X + top - Y) % top) 0), .int .u64 (wd ((X + top - Y) % top) 1), .int .u64 (wd ((X + top - Y) % top) 2), .int .u64 (wd ((X + top - Y) % top) 3)] 24)
  have hRB3 := (row_below hRB2 hb3 hRB2.lt).alloc (.cells #[.int .u64 (wd ((X + top - Y) % top) 0), .int .u64 (wd ((X + top - Y) % top) 1), .int .u64 (wd ((X + top - Y) % top) 2), .int .u64 (wd ((X + top - Y) % top) 3)] 24)
  have hB3 := hB2.trans (hb3.mono hB2.size)
  have hB3 := hB3.alloc hB3.size (.cells #[.int .u64 (wd ((X + top - Y) % top) 0), .int .u64 (wd ((X + top - Y) % top) 1), .int .u64 (wd ((X + top - Y) % top) 2), .int .u64 (wd ((X + top - Y) % top) 3)] 24)
  have s1 := (row_below hRA2 hb3 hRA2.lt).lt
  clear hRA2 hRB2 hB2 hb3
  obtain ⟨a0, a1, a2, a3⟩ := row_c4 hRA3
  go_wp2_with fail
  refine (len_is X 0 (by rw [HL.out]; rfl) hX _).mono ?_
  rintro e w4 ⟨rfl, hb4⟩
  clear a0 a1 a2 a3
  have hRA4 := row_below hRA3 hb4 hRA3.lt
  have hRB4 := row_below hRB3 hb4 hRB3.lt
  have hB4 := hB3.trans (hb4.mono hB3.size)
  clear hRA3 hRB3 hB3 hb4 s1
  go_wp2
  go_loopw [10] (fun i wr => ∃ k : Nat, 0 ≤ k ∧ k ≤ 256 ∧ i = .int .i64 k ∧ wr.rowIs w.heap.size 24 4 (fun j => .int .u64 (wd X j)) ∧ wr.rowIs (w.heap.size + 1) 24 4 (fun j => .int .u64 (wd Y j)) ∧ Below w.heap.size w wr)
    (fun i _ => 256 - (intOf i).toNat)
  case atStart => exact ⟨0, Nat.le_refl _, by omega, rfl, hRA4, hRB4, hB4⟩
  case round =>
    clear hRA4 hRB4 hB4
    obtain ⟨k, hk0, hk, rfl, hRA, hRB, hbel⟩ := hrel
    obtain ⟨a0, a1, a2, a3⟩ := row_c4 hRA
    obtain ⟨b0, b1, b2, b3⟩ := row_c4 hRB
    by_cases hlt : k < 256
    · have hbit : bit X k = false := bit_high (by rw [HL.out]; exact hk0)
      have hle : (k : Int) ≤ 255 := by omega
      have HB := veil hbit
      have HLT := veil hlt
      have HK := veil hk0
      clear hbit hlt hk hk0
      go_wp2_with fail
      refine (bit_is X k false HB.out HLT.out _).mono ?_
      rintro e w5 ⟨rfl, hb5⟩
      go_wp2
      go_roundw
      case rel => exact ⟨k + 1, Nat.le_succ_of_le HK.out, HLT.out, by go_num, row_below hRA hb5 hRA.lt, row_below hRB hb5 hRB.lt, hbel.trans (hb5.mono hbel.size)⟩
      case measure => simp [intOf]; omega
    · obtain rfl : k = 256 := by omega
      go_wp2_with fail
      refine (cmp_is Y X (0) (by have h := cmpN_turn X Y; rw [HC.out] at h; exact h) hY hX _).mono ?_
      rintro e w5 ⟨rfl, hb5⟩
      clear a0 a1 a2 a3 b0 b1 b2 b3
      have hRA5 := row_below hRA hb5 hRA.lt
      have hRB5 := row_below hRB hb5 hRB.lt
      have hB5 := hbel.trans (hb5.mono hbel.size)
      clear hRA hRB hbel hb5
      obtain ⟨a0, a1, a2, a3⟩ := row_c4 hRA5
      obtain ⟨b0, b1, b2, b3⟩ := row_c4 hRB5
      go_wp2
      go_ret
      exact ⟨rfl, hB5⟩

set_option maxRecDepth 100000 in
set_option maxHeartbeats 2000000 in
theorem orders_eq (X Y : Nat) (hX : X < top) (hY : Y < top) (hc : cmpN X Y = 0) (hu : decide (X < Y) = false) (he : decide (X = Y) = true) (hz : ¬ X = 0) (p : Nat) (hp : p ≤ 255) (hl : bitLen X = p + 1) (w : World) :
    Calls Try.prog 8 #[.agg #[.int .u64 (wd (X) 0), .int .u64 (wd (X) 1), .int .u64 (wd (X) 2), .int .u64 (wd (X) 3)], .agg #[.int .u64 (wd (Y) 0), .int .u64 (wd (Y) 1), .int .u64 (wd (Y) 2), .int .u64 (wd (Y) 3)]] w fun e w' => e = .returned (.bool true) ∧ Below w.heap.size w w' := by
  have hRA : ((w.alloc (.cells #[.int .u64 (wd (X) 0), .int .u64 (wd (X) 1), .int .u64 (wd (X) 2), .int .u64 (wd (X) 3)] 24)).alloc (.cells #[.int .u64 (wd (Y) 0), .int .u64 (wd (Y) 1), .int .u64 (wd (Y) 2), .int .u64 (wd (Y) 3)] 24)).rowIs w.heap.size 24 4 (fun j => .int .u64 (wd X j)) := (row_new (n := 4) (by simp) rfl (arr4 fun j => .int .u64 (wd X j))).alloc _
  have hRB : ((w.alloc (.cells #[.int .u64 (wd (X) 0), .int .u64 (wd (X) 1), .int .u64 (wd (X) 2), .int .u64 (wd (X) 3)] 24)).alloc (.cells #[.int .u64 (wd (Y) 0), .int .u64 (wd (Y) 1), .int .u64 (wd (Y) 2), .int .u64 (wd (Y) 3)] 24)).rowIs (w.heap.size + 1) 24 4 (fun j => .int .u64 (wd Y j)) := row_new (n := 4) (by simp) rfl (arr4 fun j => .int .u64 (wd Y j))
  have hB0 : Below w.heap.size w ((w.alloc (.cells #[.int .u64 (wd (X) 0), .int .u64 (wd (X) 1), .int .u64 (wd (X) 2), .int .u64 (wd (X) 3)] 24)).alloc (.cells #[.int .u64 (wd (Y) 0), .int .u64 (wd (Y) 1), .int .u64 (wd (Y) 2), .int .u64 (wd (Y) 3)] 24)) := ((Below.refl _ _).alloc (by simp) _).alloc (by simp) _
  have k1 : ∀ W, (binOp .eql 24 (.agg #[.int .u64 (wd (X) 0), .int .u64 (wd (X) 1), .int .u64 (wd (X) 2), .int .u64 (wd (X) 3)]) (.agg #[.int .u64 (wd (Y) 0), .int .u64 (wd (Y) 1), .int .u64 (wd (Y) 2), .int .u64 (wd (Y) 3)])).run Try.prog W = .ok (.bool true) W := fun W => by rw [eql_num hX hY, he]
  have k2 : ∀ W, (binOp .eql 24 (.agg #[.int .u64 (wd (X) 0), .int .u64 (wd (X) 1), .int .u64 (wd (X) 2), .int .u64 (wd (X) 3)]) (.agg #[.int .u64 0, .int .u64 0, .int .u64 0, .int .u64 0])).run Try.prog W = .ok (.bool false) W := fun W => by
    have h := eql_num hX top_pos W
    have hd : decide (X = 0) = false := by simp [hz]
    rw [hd] at h
    simp only [wd_zero] at h
    exact h
  have HC := veil hc
  have HU := veil hu
  have HL := veil hl
  clear hc hu he hz hl
  go_enter Try.func8, Try.ntmps8
  go_wp2_with fail
  refine (up_calls _).mono ?_
  rintro e w1 ⟨rfl, hb1⟩
  have hRA1 := row_below hRA hb1 hRA.lt
  have hRB1 := row_below hRB hb1 hRB.lt
  have hB1 := hB0.trans (hb1.mono hB0.size)
  clear hRA hRB hB0 hb1
  obtain ⟨a0, a1, a2, a3⟩ := row_c4 hRA1
  obtain ⟨b0, b1, b2, b3⟩ := row_c4 hRB1
  go_wp2_with fail
  refine (cmp_is X Y 0 HC.out hX hY _).mono ?_
  rintro e w2 ⟨rfl, hb2⟩
  clear a0 a1 a2 a3 b0 b1 b2 b3
  have hRA2 := row_below hRA1 hb2 hRA1.lt
  have hRB2 := row_below hRB1 hb2 hRB1.lt
  have hB2 := hB1.trans (hb2.mono hB1.size)
  clear hRA1 hRB1 hB1 hb2
  obtain ⟨a0, a1, a2, a3⟩ := row_c4 hRA2
  obtain ⟨b0, b1, b2, b3⟩ := row_c4 hRB2
  go_wp2_with fail
  refine (sub_is X Y false HU.out hX hY _).mono ?_
  rintro e w3 ⟨rfl, hb3⟩
  clear a0 a1 a2 a3 b0 b1 b2 b3
  have hRA3 := (row_below hRA2 hb3 hRA2.lt).alloc (.cells #[.int .u64 (wd ((X + top - Y) % top) 0), .int .u64 (wd ((X + top - Y) % top) 1), .int .u64 (wd ((X + top - Y) % top) 2), .int .u64 (wd ((X + top - Y) % top) 3)] 24)
  have hRB3 := (row_below hRB2 hb3 hRB2.lt).alloc (.cells #[.int .u64 (wd ((X + top - Y) % top) 0), .int .u64 (wd ((X + top - Y) % top) 1), .int .u64 (wd ((X + top - Y) % top) 2), .int .u64 (wd ((X + top - Y) % top) 3)] 24)
  have hB3 := hB2.trans (hb3.mono hB2.size)
  have hB3 := hB3.alloc hB3.size (.cells #[.int .u64 (wd ((X + top - Y) % top) 0), .int .u64 (wd ((X + top - Y) % top) 1), .int .u64 (wd ((X + top - Y) % top) 2), .int .u64 (wd ((X + top - Y) % top) 3)] 24)
  have s1 := (row_below hRA2 hb3 hRA2.lt).lt
  clear hRA2 hRB2 hB2 hb3
  obtain ⟨a0, a1, a2, a3⟩ := row_c4 hRA3
  go_wp2_with fail
  refine (len_is X ((p : Int) + 1) (by rw [HL.out]; rfl) hX _).mono ?_
  rintro e w4 ⟨rfl, hb4⟩
  clear a0 a1 a2 a3
  have hRA4 := row_below hRA3 hb4 hRA3.lt
  have hRB4 := row_below hRB3 hb4 hRB3.lt
  have hB4 := hB3.trans (hb4.mono hB3.size)
  clear hRA3 hRB3 hB3 hb4 s1
  go_wp2
  go_loopw [10] (fun i wr => ∃ k : Nat, p + 1 ≤ k ∧ k ≤ 256 ∧ i = .int .i64 k ∧ wr.rowIs w.heap.size 24 4 (fun j => .int .u64 (wd X j)) ∧ wr.rowIs (w.heap.size + 1) 24 4 (fun j => .int .u64 (wd Y j)) ∧ Below w.heap.size w wr)
    (fun i _ => 256 - (intOf i).toNat)
  case atStart => exact ⟨p + 1, Nat.le_refl _, by omega, rfl, hRA4, hRB4, hB4⟩
  case round =>
    clear hRA4 hRB4 hB4
    obtain ⟨k, hk0, hk, rfl, hRA, hRB, hbel⟩ := hrel
    obtain ⟨a0, a1, a2, a3⟩ := row_c4 hRA
    obtain ⟨b0, b1, b2, b3⟩ := row_c4 hRB
    by_cases hlt : k < 256
    · have hbit : bit X k = false := bit_high (by rw [HL.out]; exact hk0)
      have hle : (k : Int) ≤ 255 := by omega
      have HB := veil hbit
      have HLT := veil hlt
      have HK := veil hk0
      clear hbit hlt hk hk0
      go_wp2_with fail
      refine (bit_is X k false HB.out HLT.out _).mono ?_
      rintro e w5 ⟨rfl, hb5⟩
      go_wp2
      go_roundw
      case rel => exact ⟨k + 1, Nat.le_succ_of_le HK.out, HLT.out, by go_num, row_below hRA hb5 hRA.lt, row_below hRB hb5 hRB.lt, hbel.trans (hb5.mono hbel.size)⟩
      case measure => simp [intOf]; omega
    · obtain rfl : k = 256 := by omega
      go_wp2_with fail
      refine (cmp_is Y X (0) (by have h := cmpN_turn X Y; rw [HC.out] at h; exact h) hY hX _).mono ?_
      rintro e w5 ⟨rfl, hb5⟩
      clear a0 a1 a2 a3 b0 b1 b2 b3
      have hRA5 := row_below hRA hb5 hRA.lt
      have hRB5 := row_below hRB hb5 hRB.lt
      have hB5 := hbel.trans (hb5.mono hbel.size)
      clear hRA hRB hbel hb5
      obtain ⟨a0, a1, a2, a3⟩ := row_c4 hRA5
      obtain ⟨b0, b1, b2, b3⟩ := row_c4 hRB5
      go_wp2_with fail
      refine (bit_is X p true (bit_last HL.out) (by omega) _).mono ?_
      rintro e w6 ⟨rfl, hb6⟩
      go_wp2
      go_ret
      exact ⟨rfl, hB5.trans (hb6.mono hB5.size)⟩

set_option maxRecDepth 100000 in
set_option maxHeartbeats 2000000 in
theorem orders_gt (X Y : Nat) (hX : X < top) (hY : Y < top) (hc : cmpN X Y = 1) (hu : decide (X < Y) = false) (he : decide (X = Y) = false) (hz : ¬ X = 0) (p : Nat) (hp : p ≤ 255) (hl : bitLen X = p + 1) (w : World) :
    Calls Try.prog 8 #[.agg #[.int .u64 (wd (X) 0), .int .u64 (wd (X) 1), .int .u64 (wd (X) 2), .int .u64 (wd (X) 3)], .agg #[.int .u64 (wd (Y) 0), .int .u64 (wd (Y) 1), .int .u64 (wd (Y) 2), .int .u64 (wd (Y) 3)]] w fun e w' => e = .returned (.bool true) ∧ Below w.heap.size w w' := by
  have hRA : ((w.alloc (.cells #[.int .u64 (wd (X) 0), .int .u64 (wd (X) 1), .int .u64 (wd (X) 2), .int .u64 (wd (X) 3)] 24)).alloc (.cells #[.int .u64 (wd (Y) 0), .int .u64 (wd (Y) 1), .int .u64 (wd (Y) 2), .int .u64 (wd (Y) 3)] 24)).rowIs w.heap.size 24 4 (fun j => .int .u64 (wd X j)) := (row_new (n := 4) (by simp) rfl (arr4 fun j => .int .u64 (wd X j))).alloc _
  have hRB : ((w.alloc (.cells #[.int .u64 (wd (X) 0), .int .u64 (wd (X) 1), .int .u64 (wd (X) 2), .int .u64 (wd (X) 3)] 24)).alloc (.cells #[.int .u64 (wd (Y) 0), .int .u64 (wd (Y) 1), .int .u64 (wd (Y) 2), .int .u64 (wd (Y) 3)] 24)).rowIs (w.heap.size + 1) 24 4 (fun j => .int .u64 (wd Y j)) := row_new (n := 4) (by simp) rfl (arr4 fun j => .int .u64 (wd Y j))
  have hB0 : Below w.heap.size w ((w.alloc (.cells #[.int .u64 (wd (X) 0), .int .u64 (wd (X) 1), .int .u64 (wd (X) 2), .int .u64 (wd (X) 3)] 24)).alloc (.cells #[.int .u64 (wd (Y) 0), .int .u64 (wd (Y) 1), .int .u64 (wd (Y) 2), .int .u64 (wd (Y) 3)] 24)) := ((Below.refl _ _).alloc (by simp) _).alloc (by simp) _
  have k1 : ∀ W, (binOp .eql 24 (.agg #[.int .u64 (wd (X) 0), .int .u64 (wd (X) 1), .int .u64 (wd (X) 2), .int .u64 (wd (X) 3)]) (.agg #[.int .u64 (wd (Y) 0), .int .u64 (wd (Y) 1), .int .u64 (wd (Y) 2), .int .u64 (wd (Y) 3)])).run Try.prog W = .ok (.bool false) W := fun W => by rw [eql_num hX hY, he]
  have k2 : ∀ W, (binOp .eql 24 (.agg #[.int .u64 (wd (X) 0), .int .u64 (wd (X) 1), .int .u64 (wd (X) 2), .int .u64 (wd (X) 3)]) (.agg #[.int .u64 0, .int .u64 0, .int .u64 0, .int .u64 0])).run Try.prog W = .ok (.bool false) W := fun W => by
    have h := eql_num hX top_pos W
    have hd : decide (X = 0) = false := by simp [hz]
    rw [hd] at h
    simp only [wd_zero] at h
    exact h
  have HC := veil hc
  have HU := veil hu
  have HL := veil hl
  clear hc hu he hz hl
  go_enter Try.func8, Try.ntmps8
  go_wp2_with fail
  refine (up_calls _).mono ?_
  rintro e w1 ⟨rfl, hb1⟩
  have hRA1 := row_below hRA hb1 hRA.lt
  have hRB1 := row_below hRB hb1 hRB.lt
  have hB1 := hB0.trans (hb1.mono hB0.size)
  clear hRA hRB hB0 hb1
  obtain ⟨a0, a1, a2, a3⟩ := row_c4 hRA1
  obtain ⟨b0, b1, b2, b3⟩ := row_c4 hRB1
  go_wp2_with fail
  refine (cmp_is X Y 1 HC.out hX hY _).mono ?_
  rintro e w2 ⟨rfl, hb2⟩
  clear a0 a1 a2 a3 b0 b1 b2 b3
  have hRA2 := row_below hRA1 hb2 hRA1.lt
  have hRB2 := row_below hRB1 hb2 hRB1.lt
  have hB2 := hB1.trans (hb2.mono hB1.size)
  clear hRA1 hRB1 hB1 hb2
  obtain ⟨a0, a1, a2, a3⟩ := row_c4 hRA2
  obtain ⟨b0, b1, b2, b3⟩ := row_c4 hRB2
  go_wp2_with fail
  refine (sub_is X Y false HU.out hX hY _).mono ?_
  rintro e w3 ⟨rfl, hb3⟩
  clear a0 a1 a2 a3 b0 b1 b2 b3
  have hRA3 := (row_below hRA2 hb3 hRA2.lt).alloc (.cells #[.int .u64 (wd ((X + top - Y) % top) 0), .int .u64 (wd ((X + top - Y) % top) 1), .int .u64 (wd ((X + top - Y) % top) 2), .int .u64 (wd ((X + top - Y) % top) 3)] 24)
  have hRB3 := (row_below hRB2 hb3 hRB2.lt).alloc (.cells #[.int .u64 (wd ((X + top - Y) % top) 0), .int .u64 (wd ((X + top - Y) % top) 1), .int .u64 (wd ((X + top - Y) % top) 2), .int .u64 (wd ((X + top - Y) % top) 3)] 24)
  have hB3 := hB2.trans (hb3.mono hB2.size)
  have hB3 := hB3.alloc hB3.size (.cells #[.int .u64 (wd ((X + top - Y) % top) 0), .int .u64 (wd ((X + top - Y) % top) 1), .int .u64 (wd ((X + top - Y) % top) 2), .int .u64 (wd ((X + top - Y) % top) 3)] 24)
  have s1 := (row_below hRA2 hb3 hRA2.lt).lt
  clear hRA2 hRB2 hB2 hb3
  obtain ⟨a0, a1, a2, a3⟩ := row_c4 hRA3
  go_wp2_with fail
  refine (len_is X ((p : Int) + 1) (by rw [HL.out]; rfl) hX _).mono ?_
  rintro e w4 ⟨rfl, hb4⟩
  clear a0 a1 a2 a3
  have hRA4 := row_below hRA3 hb4 hRA3.lt
  have hRB4 := row_below hRB3 hb4 hRB3.lt
  have hB4 := hB3.trans (hb4.mono hB3.size)
  clear hRA3 hRB3 hB3 hb4 s1
  go_wp2
  go_loopw [10] (fun i wr => ∃ k : Nat, p + 1 ≤ k ∧ k ≤ 256 ∧ i = .int .i64 k ∧ wr.rowIs w.heap.size 24 4 (fun j => .int .u64 (wd X j)) ∧ wr.rowIs (w.heap.size + 1) 24 4 (fun j => .int .u64 (wd Y j)) ∧ Below w.heap.size w wr)
    (fun i _ => 256 - (intOf i).toNat)
  case atStart => exact ⟨p + 1, Nat.le_refl _, by omega, rfl, hRA4, hRB4, hB4⟩
  case round =>
    clear hRA4 hRB4 hB4
    obtain ⟨k, hk0, hk, rfl, hRA, hRB, hbel⟩ := hrel
    obtain ⟨a0, a1, a2, a3⟩ := row_c4 hRA
    obtain ⟨b0, b1, b2, b3⟩ := row_c4 hRB
    by_cases hlt : k < 256
    · have hbit : bit X k = false := bit_high (by rw [HL.out]; exact hk0)
      have hle : (k : Int) ≤ 255 := by omega
      have HB := veil hbit
      have HLT := veil hlt
      have HK := veil hk0
      clear hbit hlt hk hk0
      go_wp2_with fail
      refine (bit_is X k false HB.out HLT.out _).mono ?_
      rintro e w5 ⟨rfl, hb5⟩
      go_wp2
      go_roundw
      case rel => exact ⟨k + 1, Nat.le_succ_of_le HK.out, HLT.out, by go_num, row_below hRA hb5 hRA.lt, row_below hRB hb5 hRB.lt, hbel.trans (hb5.mono hbel.size)⟩
      case measure => simp [intOf]; omega
    · obtain rfl : k = 256 := by omega
      go_wp2_with fail
      refine (cmp_is Y X (-1) (by have h := cmpN_turn X Y; rw [HC.out] at h; exact h) hY hX _).mono ?_
      rintro e w5 ⟨rfl, hb5⟩
      clear a0 a1 a2 a3 b0 b1 b2 b3
      have hRA5 := row_below hRA hb5 hRA.lt
      have hRB5 := row_below hRB hb5 hRB.lt
      have hB5 := hbel.trans (hb5.mono hbel.size)
      clear hRA hRB hbel hb5
      obtain ⟨a0, a1, a2, a3⟩ := row_c4 hRA5
      obtain ⟨b0, b1, b2, b3⟩ := row_c4 hRB5
      go_wp2_with fail
      refine (bit_is X p true (bit_last HL.out) (by omega) _).mono ?_
      rintro e w6 ⟨rfl, hb6⟩
      go_wp2
      go_ret
      exact ⟨rfl, hB5.trans (hb6.mono hB5.size)⟩

theorem orders_walk (X Y : Nat) (hX : X < top) (hY : Y < top) (w : World) :
    Calls Try.prog 8 #[.agg #[.int .u64 (wd (X) 0), .int .u64 (wd (X) 1), .int .u64 (wd (X) 2), .int .u64 (wd (X) 3)], .agg #[.int .u64 (wd (Y) 0), .int .u64 (wd (Y) 1), .int .u64 (wd (Y) 2), .int .u64 (wd (Y) 3)]] w fun e w' => e = .returned (.bool true) ∧ Below w.heap.size w w' := by
  have hb := bitLen_256 hX
  by_cases h0 : X = 0
  · have hl : bitLen X = 0 := by rw [h0]; rfl
    by_cases h : X < Y
    · exact orders_lt0 X Y hX hY (by unfold cmpN; rw [if_pos h]) (by simpa using h) (by simp; omega) h0 hl w
    · exact orders_eq0 X Y hX hY (by unfold cmpN; rw [if_neg h, if_neg (by omega)]) (by simp; omega) (by simp; omega) h0 hl w
  · obtain ⟨p, hp⟩ : ∃ p, bitLen X = p + 1 := ⟨X.log2, by unfold bitLen; rw [if_neg h0]⟩
    rcases Nat.lt_trichotomy X Y with h | h | h
    · exact orders_lt X Y hX hY (by unfold cmpN; rw [if_pos h]) (by simpa using h) (by simp; omega) h0 p (by omega) hp w
    · exact orders_eq X Y hX hY (by unfold cmpN; rw [if_neg (by omega), if_neg (by omega)]) (by simp; omega) (by simp; omega) h0 p (by omega) hp w
    · exact orders_gt X Y hX hY (by unfold cmpN; rw [if_neg (by omega), if_pos h]) (by simp; omega) (by simp; omega) h0 p (by omega) hp w

/-! ### the statement -/
section
open Go.ChangeShapes Go.WideShapes Go.ChangeAt
set_option maxRecDepth 100000 in
theorem LimbOrders_lifted (os : Os) (started : os.Started) (H : Type) (enc : TypeId × Value → H) :
    ReturnsInHanded {} Try.checked os 8 .any (Rows.limbOrdersSpec.pre6 enc Try.prog Try.f8 Rows.limbOrdersRow.domain false) (Rows.limbOrdersSpec.post enc Try.prog Try.f8 false true false false) := by
  refine returnsInHanded_of_change (C := Try.checked) own started (by kernel_rfl) Try.func8
    (ChangeSpec.witness6 (enc := enc) (C := Try.checked) false ⟨#[], #[.agg #[.int .u64 0, .int .u64 0, .int .u64 0, .int .u64 0], .agg #[.int .u64 0, .int .u64 0, .int .u64 0, .int .u64 0]], []⟩ 8 (by kernel_rfl) (by kernel_rfl) (by kernel_rfl) (by kernel_rfl)) ?_
  intro W base args ds gs before hval0 hW _ _
  have hval : ∀ (j : Nat) t v, Try.f8.params[j]? = some t → args[j]? = some v → Value.okWide Try.prog W .any base t v := hval0
  have hW' := hW
  obtain ⟨p, q, hA0, hV, rfl, _, _⟩ := hW
  have hA : DataW.TrodAll enc Try.prog W 0 (fun _ => true) true Try.f8.params.toList args.toList ds p := hA0
  rw [Try.params8] at hA hval
  obtain ⟨v0, v1, d0, d1, p0, p1, rfl, rfl, rfl, h0, h1⟩ := trodAll_two hA
  obtain ⟨rfl, rfl⟩ := trodVars_none hV
  obtain ⟨X, hX, rfl, rfl, rfl⟩ := open_num (hval 0 24 v0 rfl rfl) h0
  obtain ⟨Y, hY, rfl, rfl, rfl⟩ := open_num (hval 1 24 v1 rfl rfl) h1
  clear hA0 hval0
  simp only [List.append_nil] at hW'
  refine (orders_walk X Y hX hY W).mono fun e W' ⟨he, hb⟩ => ?_
  subst he
  exact ⟨_, rfl, _, _, _, [], [], [], hW', trodAll_mk1 (shut_bool Try.underlying4 true), trodAll_mk2 (shut_num W' 0 _ true X) (shut_num W' 0 _ true Y), rfl, hb.frame _, fun h => by cases h⟩

theorem LimbOrders_over : Rows.limbOrdersRow.holds Try.pinned (OpenSpec.ofChange Rows.limbOrdersSpec) :=
  OpenClaim.holds_of_wide 8 Try.f8 rfl rfl rfl rfl rfl rfl rfl ⟨rfl, rfl, rfl, rfl, rfl⟩ rfl rfl rfl rfl rfl (by kernel_rfl) Try.func8 (by kernel_rfl)
    (of_decide_eq_true (by kernel_rfl)) (by unfold Func.isWrapper; rw [if_neg (of_decide_eq_false (by kernel_rfl))]; exact ⟨rfl, rfl⟩)
    (fun os started H enc _ => LimbOrders_lifted os started H enc)

theorem LimbOrders_holds : Rows.LimbOrdersSaid :=
  LimbOrders_over
end

#print axioms LimbOrders_holds
end Go.Proofs.Ytlkpbjfkncmcgaa
