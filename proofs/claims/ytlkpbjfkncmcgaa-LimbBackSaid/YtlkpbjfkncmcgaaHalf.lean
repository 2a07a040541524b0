/-
  limb.Half, clapperref01.Half: half of a number.
-/
import Derived.Test.YtlkpbjfkncmcgaaRAdd
namespace Go.Proofs.Ytlkpbjfkncmcgaa
open Go.RowKit

theorem half_div (X P : Nat) : X / 2 / P = X / P / 2 := by rw [Nat.div_div_eq_div_mul, Nat.div_div_eq_div_mul, Nat.mul_comm]
theorem dg_next (B X i : Nat) : dg B X (i + 1) = X / B ^ i / B % B := by rw [dg, Nat.pow_succ, Nat.div_div_eq_div_mul]
theorem half_word (X m : Nat) : bits .or .u64 (wd X m / 2) (IntKind.u64.wrap (wd X (m + 1) * 9223372036854775808)) = wd (X / 2) m := by
  unfold wd
  rw [dg_next, IntKind.wrap_u64]
  show _ = ((X / 2 / w64 ^ m % w64 : Nat) : Int)
  rw [half_div]
  unfold dg
  generalize X / w64 ^ m = q
  unfold w64
  rw [show ((q % 18446744073709551616 : Nat) : Int) / 2 = ((q % 18446744073709551616 / 2 : Nat) : Int) by omega,
    show ((q / 18446744073709551616 % 18446744073709551616 : Nat) : Int) * 9223372036854775808 % 18446744073709551616 = ((q / 18446744073709551616 % 2 * 9223372036854775808 : Nat) : Int) by omega]
  rw [u64_or_nat _ _ (by omega) (by omega), Nat.or_comm, nat_join 63 _ _ (by omega) (by omega)]
  omega
theorem half_part (X m : Nat) : (pt X m + 65536 * (pt X (m + 1) % 2)) / 2 = pt (X / 2) m := by
  unfold pt
  rw [dg_next]
  show _ = ((X / 2 / w16 ^ m % w16 : Nat) : Int)
  rw [half_div]
  unfold dg
  generalize X / w16 ^ m = q
  unfold w16
  omega
theorem wd_top {X : Nat} (hX : X < top) : wd X 4 = 0 := by
  unfold wd dg
  unfold top at hX
  rw [Nat.div_eq_of_lt hX]; rfl
theorem pt_top {X : Nat} (hX : X < top) : pt X 16 = 0 := by
  rw [top_w16] at hX
  unfold pt dg
  rw [Nat.div_eq_of_lt hX]; rfl

theorem row_down {X m : Nat} : ∀ i, i < 4 → (if i = m then Value.int .u64 (wd X m) else Value.int .u64 (if m + 1 ≤ i then wd X i else 0)) = Value.int .u64 (if m ≤ i then wd X i else 0) := by
  intro i _
  by_cases h : i = m
  · subst h; simp
  · rw [if_neg h]; by_cases h2 : m ≤ i
    · rw [if_pos h2, if_pos (by omega)]
    · rw [if_neg h2, if_neg (by omega)]

set_option maxHeartbeats 1000000 in
theorem half_calls (X : Nat) (hX : X < top) (w : World) :
    Calls Try.prog 19 #[.agg #[.int .u64 (wd (X) 0), .int .u64 (wd (X) 1), .int .u64 (wd (X) 2), .int .u64 (wd (X) 3)]] w fun e w' => e = .returned (.agg #[.int .u64 (wd (X / 2) 0), .int .u64 (wd (X / 2) 1), .int .u64 (wd (X / 2) 2), .int .u64 (wd (X / 2) 3)]) ∧ Below w.heap.size w w' := by
  go_enter Try.func19, Try.ntmps19
  go_wp2
  go_loopw [4, 5] (fun c i wr => ∃ k : Nat, k ≤ 4 ∧ i = .int .i64 ((k : Int) - 1) ∧ c = .int .u64 (wd X k) ∧ wr.rowIs w.heap.size 24 4 (fun j => .int .u64 (wd X j))
      ∧ wr.rowIs (w.heap.size + 1) 24 4 (fun _ => .int .u64 0) ∧ wr.rowIs (w.heap.size + 1 + 1) 24 4 (fun j => .int .u64 (if k ≤ j then wd (X / 2) j else 0)) ∧ Below w.heap.size w wr)
    (fun _ i _ => (intOf i + 1).toNat)
  case atStart => exact ⟨4, by omega, rfl, by rw [wd_top hX], ((row_new (n := 4) (by simp) rfl (arr4 fun j => .int .u64 (wd X j))).alloc _).alloc _, (row_new (n := 4) (by simp) rfl (arr4 fun _ => .int .u64 0)).alloc _, (row_new (n := 4) (f := fun _ => .int .u64 0) (by simp) rfl (arr4 fun _ => .int .u64 0)).congr (fun i hi => by rw [if_neg (by omega)]), (((Below.refl _ _).alloc (by simp) _).alloc (by simp) _).alloc (by simp; omega) _⟩
  case round =>
    obtain ⟨k, hk, hi, rfl, hRX, hRZ, hS, hbel⟩ := hrel
    cases k with
    | zero =>
      subst hi
      obtain ⟨c0, c1, c2, c3⟩ := row_c4 hS
      obtain ⟨d0, d1, d2, d3⟩ := row_c4 hRZ
      obtain ⟨f0, f1, f2, f3⟩ := row_f4 hRZ
      simp only [Nat.zero_le, if_true] at c0 c1 c2 c3
      clear hS hRX
      go_wp2
      refine bodyPost_ret (results_cell_row rfl _ _ (w.heap.size + 1) 24 #[.int .u64 (wd (X / 2) 0), .int .u64 (wd (X / 2) 1), .int .u64 (wd (X / 2) 2), .int .u64 (wd (X / 2) 3)] (0, 0) _ rfl (blk4 (put4 hRZ fun j => .int .u64 (wd (X / 2) j))) Try.underlying24 rfl (by kernel_rfl)) rfl ⟨rfl, below_put4 hbel (by omega) _ _ _ _⟩
    | succ m =>
      obtain rfl : _ = Value.int .i64 (m : Int) := hi.trans (by congr 1; omega)
      have hm : m < 4 := by omega
      clear hi
      have c1 := hRX.cell hm
      have c2 := hS.cell hm
      have f2 := hS.frozen m
      have l1 := wd_lo X m
      have u1 := wd_le X m
      have l2 := wd_lo X (m + 1)
      have u2 := wd_le X (m + 1)
      go_wp2
      go_roundw
      case rel =>
        rw [half_word]
        exact ⟨m, by omega, rfl, rfl, row_far hRX (by omega) _, row_far hRZ (by omega) _, (hS.set m _).congr row_down, below_set hbel (by omega) _⟩
      case measure => simp [intOf]

theorem part_down {f : Nat → Value} {Z m : Nat} : ∀ i, i < 16 → (if i = m then Value.int .i64 (pt Z m) else if m + 1 ≤ i then ptv Z i else f i) = if m ≤ i then ptv Z i else f i := by
  intro i _
  by_cases h : i = m
  · subst h; simp [ptv]
  · rw [if_neg h]; by_cases h2 : m ≤ i
    · rw [if_pos h2, if_pos (by omega)]
    · rw [if_neg h2, if_neg (by omega)]

set_option maxHeartbeats 1000000 in
theorem rhalf_calls (X : Nat) (hX : X < top) (w : World) :
    Calls Try.prog 20 #[.agg #[.int .u64 (wd (X) 0), .int .u64 (wd (X) 1), .int .u64 (wd (X) 2), .int .u64 (wd (X) 3)]] w fun e w' => e = .returned (.agg #[.int .u64 (wd (X / 2) 0), .int .u64 (wd (X / 2) 1), .int .u64 (wd (X / 2) 2), .int .u64 (wd (X / 2) 3)]) ∧ Below w.heap.size w w' := by
  have hRZ : ((w.alloc (.cells #[.int .u64 (wd (X) 0), .int .u64 (wd (X) 1), .int .u64 (wd (X) 2), .int .u64 (wd (X) 3)] 24)).alloc (.cells #[.int .u64 0, .int .u64 0, .int .u64 0, .int .u64 0] 24)).rowIs (w.heap.size + 1) 24 4 (fun _ => .int .u64 0) := row_new (n := 4) (by simp) rfl (arr4 fun _ => .int .u64 0)
  have hB0 : Below w.heap.size w ((w.alloc (.cells #[.int .u64 (wd (X) 0), .int .u64 (wd (X) 1), .int .u64 (wd (X) 2), .int .u64 (wd (X) 3)] 24)).alloc (.cells #[.int .u64 0, .int .u64 0, .int .u64 0, .int .u64 0] 24)) := ((Below.refl _ _).alloc (by simp) _).alloc (by simp) _
  go_enter Try.func20, Try.ntmps20
  go_wp2_with fail
  refine (parts_calls X _).mono ?_
  rintro e w1 ⟨g1, cap1, rfl, hg1, hp1, hb1⟩
  simp only [World.size_alloc] at hg1
  have hRZ1 := row_below hRZ hb1 (by simp)
  have hB1 := hB0.trans (hb1.mono (by simp; omega))
  clear hRZ hB0 hb1
  go_wp2
  go_loopw [4, 5] (fun c i wr => ∃ k : Nat, k ≤ 16 ∧ i = .int .i64 ((k : Int) - 1) ∧ c = .int .i64 (pt X k % 2) ∧ Pre wr g1 3 16 (fun j => if k ≤ j then ptv (X / 2) j else ptv X j)
      ∧ wr.rowIs (w.heap.size + 1) 24 4 (fun _ => .int .u64 0) ∧ Below w.heap.size w wr)
    (fun _ i _ => (intOf i + 1).toNat)
  case atStart => exact ⟨16, by omega, rfl, by rw [pt_top hX]; rfl, hp1.congr (fun i hi => by rw [if_neg (by omega)]), hRZ1, hB1⟩
  case round =>
    clear hp1 hRZ1 hB1
    obtain ⟨k, hk, hi, rfl, hp, hRZ, hbel⟩ := hrel
    cases k with
    | zero =>
      subst hi
      go_wp2_with fail
      refine (num_calls (X / 2) g1 cap1 _ (hp.congr (fun i _ => by simp))).mono ?_
      rintro e w3 ⟨rfl, hb3⟩
      have hRZ3 := row_below hRZ hb3 hRZ.lt
      have hB3 := hbel.trans (hb3.mono hbel.size)
      obtain ⟨d0, d1, d2, d3⟩ := row_c4 hRZ3
      obtain ⟨f0, f1, f2, f3⟩ := row_f4 hRZ3
      clear hRZ hbel hb3
      go_wp2
      refine bodyPost_ret (results_cell_row rfl _ _ (w.heap.size + 1) 24 #[.int .u64 (wd (X / 2) 0), .int .u64 (wd (X / 2) 1), .int .u64 (wd (X / 2) 2), .int .u64 (wd (X / 2) 3)] (0, 0) _ rfl (blk4 (put4 hRZ3 fun j => .int .u64 (wd (X / 2) j))) Try.underlying24 rfl (by kernel_rfl)) rfl ⟨rfl, below_put4 hB3 (by omega) _ _ _ _⟩
    | succ m =>
      obtain rfl : _ = Value.int .i64 (m : Int) := hi.trans (by congr 1; omega)
      have hm : m < 16 := by omega
      clear hi
      have c1 := hp.cell hm
      have f1 := hp.frozen m
      rw [if_neg (by omega)] at c1
      simp only [ptv] at c1
      have l1 := pt_lo X m
      have u1 := pt_lt X m
      have hs := half_part X m
      have HS := veil hs
      have l2 : 0 ≤ pt X (m + 1) % 2 := by omega
      have u2 : pt X (m + 1) % 2 ≤ 1 := by omega
      clear hs
      generalize pt X (m + 1) % 2 = c at *
      go_wp2
      go_roundw
      case rel =>
        rw [HS.out]
        exact ⟨m, by omega, rfl, by congr 1; omega, (hp.set m _).congr part_down, row_far hRZ (by omega) _, below_set hbel (by omega) _⟩
      case measure => simp [intOf]
end Go.Proofs.Ytlkpbjfkncmcgaa
