/-
  clapperlaw02.odd, up: which numbers may be a modulus; the document's example.
-/
import Derived.Test.YtkfomfpeangcdaaFNew
import Derived.Test.YtkfomfpeangcdaaFInv
namespace Go.Proofs.Ytkfomfpeangcdaa
open Go.RowKit

/-- May it be a modulus? -/
def oddB (M : Nat) : Bool := decide (M % 2 = 1) && decide (M ≠ 1)
set_option maxRecDepth 100000 in
set_option maxHeartbeats 4000000 in
theorem odd_calls (M : Nat) (ok : Bool) (hok : oddB M = ok) (hM : M < top) (w : World) :
    Calls Try.prog 12 #[.agg #[.int .u64 (wd (M) 0), .int .u64 (wd (M) 1), .int .u64 (wd (M) 2), .int .u64 (wd (M) 3)]] w fun e w' => e = .returned (.bool ok) ∧ Below w.heap.size w w' := by
  have hA : (w.alloc (.cells #[.int .u64 (wd (M) 0), .int .u64 (wd (M) 1), .int .u64 (wd (M) 2), .int .u64 (wd (M) 3)] 24)).rowIs w.heap.size 24 4 (fun j => .int .u64 (wd M j)) := row_new (n := 4) (by simp) rfl (arr4 fun j => .int .u64 (wd M j))
  have hbel : Below w.heap.size w (w.alloc (.cells #[.int .u64 (wd (M) 0), .int .u64 (wd (M) 1), .int .u64 (wd (M) 2), .int .u64 (wd (M) 3)] 24)) := (Below.refl _ _).alloc (by simp) _
  have k1 := fun W => neq_one hM W
  have hp := wd_odd M
  have l0 := wd_lo M 0
  obtain ⟨a0, a1, a2, a3⟩ := row_c4 hA
  clear hM
  unfold oddB at hok
  by_cases h : M % 2 = 1
  · rw [h] at hp
    have hp : wd M 0 % 2 = 1 := hp
    rw [decide_eq_true h, Bool.true_and] at hok
    have e : (!decide (M = 1)) = ok := by rw [← hok]; by_cases h1 : M = 1 <;> simp [h1]
    rw [e] at k1
    clear h hok e
    go_enter Try.func12, Try.ntmps12
    go_wp2
    go_ret
    exact ⟨rfl, hbel⟩
  · have hp : wd M 0 % 2 = 0 := by rw [hp, show M % 2 = 0 by omega]; rfl
    rw [decide_eq_false h, Bool.false_and] at hok
    subst hok
    clear h
    go_enter Try.func12, Try.ntmps12
    go_wp2
    go_ret
    exact ⟨rfl, hbel⟩

theorem eql_err1 (w : World) : (binOp .eql 30 (.iface 34 (.int .i64 1)) (.iface 34 (.int .i64 1))).run Try.prog w = .ok (.bool true) w := by kernel_rfl
theorem eql_err4 (w : World) : (binOp .eql 30 (.iface 34 (.int .i64 4)) (.iface 34 (.int .i64 4))).run Try.prog w = .ok (.bool true) w := by kernel_rfl
theorem lit_num (n : Nat) (h : n < w64) : (.agg #[.int .u64 (wd (n) 0), .int .u64 (wd (n) 1), .int .u64 (wd (n) 2), .int .u64 (wd (n) 3)]) = Value.agg #[.int .u64 (n : Int), .int .u64 0, .int .u64 0, .int .u64 0] := by
  have e : ∀ i, wd n (i + 1) = 0 := by
    intro i; unfold wd dg
    rw [Nat.div_eq_of_lt (Nat.lt_of_lt_of_le h (by rw [Nat.pow_succ]; exact Nat.le_mul_of_pos_left _ (Nat.pow_pos w64_pos)))]; rfl
  have e0 : wd n 0 = n := by
    unfold wd dg
    rw [Nat.pow_zero, Nat.div_one, Nat.mod_eq_of_lt h]
  rw [e0, e 0, e 1, e 2]

theorem new7 (w : World) :
    Calls Try.prog 11 #[.agg #[.int .u64 7, .int .u64 0, .int .u64 0, .int .u64 0]] w fun e w' => (∃ (b : Nat) (N : Int) (Q : Nat), Fok 7 N Q ∧ Fb w' b 7 N Q ∧ w.heap.size ≤ b ∧ e = .returned (.tuple #[.pointer (some ⟨b, 0, none⟩), .nilIface])) ∧ Below w.heap.size w w' := by
  have h := new_good 7 (by decide) (by decide) (by decide) w
  rw [lit_num 7 (by decide)] at h
  exact h
theorem inv3 (b : Nat) (N : Int) (Q : Nat) (hK : Fok 7 N Q) (w : World) (hF : Fb w b 7 N Q) :
    Calls Try.prog 25 #[.pointer (some ⟨b, 0, none⟩), .agg #[.int .u64 3, .int .u64 0, .int .u64 0, .int .u64 0]] w fun e w' =>
      e = .returned (.tuple #[.agg #[.int .u64 5, .int .u64 0, .int .u64 0, .int .u64 0], .nilIface]) ∧ Below w.heap.size w w' := by
  have h := finv_calls b 3 7 N Q (by decide) hK w hF
  rw [lit_num 3 (by decide)] at h
  refine h.mono ?_
  rintro e w' ⟨⟨y, h1, h2, rfl⟩, hb⟩
  have h2 := h2 (by decide)
  obtain rfl : y = 5 := by omega
  rw [invRet_one (by decide), lit_num 5 (by decide)]
  exact ⟨rfl, hb⟩
theorem inv0 (b : Nat) (N : Int) (Q : Nat) (hK : Fok 7 N Q) (w : World) (hF : Fb w b 7 N Q) :
    Calls Try.prog 25 #[.pointer (some ⟨b, 0, none⟩), .agg #[.int .u64 0, .int .u64 0, .int .u64 0, .int .u64 0]] w fun e w' =>
      e = .returned (.tuple #[.agg #[.int .u64 0, .int .u64 0, .int .u64 0, .int .u64 0], .iface 34 (.int .i64 4)]) ∧ Below w.heap.size w w' := by
  have h := finv_calls b 0 7 N Q (by decide) hK w hF
  rw [lit_num 0 (by decide)] at h
  refine h.mono ?_
  rintro e w' ⟨⟨y, h1, h2, rfl⟩, hb⟩
  rw [invRet_no (by decide)]
  exact ⟨rfl, hb⟩

set_option maxRecDepth 100000 in
set_option maxHeartbeats 4000000 in
theorem up_calls (w : World) :
    Calls Try.prog 10 #[] w fun e w' => e = .returned (.bool true) ∧ Below w.heap.size w w' := by
  have k1 := fun W => eql_lit 5 0 0 0 W
  have k2 := fun W => eql_err4 W
  go_enter Try.func10, Try.ntmps10
  go_wp2_with fail
  refine (new7 _).mono ?_
  rintro e w1 ⟨⟨b, N, Q, hK, hF, hbw, rfl⟩, hb1⟩
  have K3 := veil (fun W (h : Fb W b 7 N Q) => inv3 b N Q hK W h)
  have K0 := veil (fun W (h : Fb W b 7 N Q) => inv0 b N Q hK W h)
  clear hK
  go_wp2_with fail
  refine (K3.out _ hF).mono ?_
  rintro e w2 ⟨rfl, hb2⟩
  replace hF := hF.call hb2
  replace hb1 := hb1.trans (hb2.mono hb1.size)
  clear hb2
  go_wp2_with fail
  refine (K0.out _ (hF.alloc _)).mono ?_
  rintro e w3 ⟨rfl, hb3⟩
  have hT : w3.rowIs w2.heap.size 24 4 (fun j => .int .u64 (match j with | 0 => 5 | _ => 0)) :=
    row_below (row_new (n := 4) rfl rfl (fun i hi => by match i, hi with | 0, _ => rfl | 1, _ => rfl | 2, _ => rfl | 3, _ => rfl)) hb3 (by simp)
  have t0 : w3.cell? ⟨w2.heap.size, 0, none⟩ = some (.int .u64 5) := hT.cell (show 0 < 4 by omega)
  have t1 : w3.cell? ⟨w2.heap.size, 1, none⟩ = some (.int .u64 0) := hT.cell (show 1 < 4 by omega)
  have t2 : w3.cell? ⟨w2.heap.size, 2, none⟩ = some (.int .u64 0) := hT.cell (show 2 < 4 by omega)
  have t3 : w3.cell? ⟨w2.heap.size, 3, none⟩ = some (.int .u64 0) := hT.cell (show 3 < 4 by omega)
  have z1 := hT.lt
  replace hb1 := (hb1.alloc hb1.size _).trans (hb3.mono (hb1.alloc hb1.size _).size)
  clear hT hF hb3 K0 K3
  go_wp2
  go_ret
  exact ⟨rfl, hb1.alloc hb1.size _⟩
end Go.Proofs.Ytkfomfpeangcdaa
