/-
  Merged: Q9 Q10 Q11 Q12 Q13 Made.
-/
import Derived.OrdersHeld
import Derived.StillTail
import Derived.Deep.RegionHeld3
import Derived.Test.YtppfcdpokgnpfaaZ7
import Derived.Test.YtppfcdpokgnpfaaZ1

/-
  clapperref05.Add, Neg, On: what they answer of points on the curve: the group's.
-/
namespace Go.Proofs.Ytppfcdpokgnpfaa
open Go.RowKit

set_option maxRecDepth 100000 in
theorem v_zero : ((0 : Fin Pt.pp)).val = 0 := Fin.val_zero _
set_option maxRecDepth 100000 in
theorem v_one : ((1 : Fin Pt.pp)).val = 1 := Pt.val_one pp_one
set_option maxRecDepth 100000 in
theorem v_three : ((3 : Fin Pt.pp)).val = 3 := by
  rw [← Pt.F_three]
  exact Nat.mod_eq_of_lt three_lt
set_option maxRecDepth 100000 in
theorem x3_val {U T : Nat} {l : Fin Pt.pp} (x1 x2 : Fin Pt.pp) (h : U * T % Pt.pp = l.val) : x3 U T x1.val x2.val = (l * l - x1 - x2).val := by
  unfold x3
  rw [h, Pt.v_mul, Pt.v_sub, Pt.v_sub]
set_option maxRecDepth 100000 in
theorem y3_val {U T : Nat} {l : Fin Pt.pp} (x1 y1 x2 : Fin Pt.pp) (h : U * T % Pt.pp = l.val) : y3 U T x1.val y1.val x2.val = (l * (x1 - (l * l - x1 - x2)) - y1).val := by
  unfold y3
  rw [x3_val x1 x2 h, h, Pt.v_sub, Pt.v_mul, Pt.v_sub]
set_option maxRecDepth 100000 in
theorem p_top (p : Pt.P Pt.pp) : Pt.pX p < top ∧ Pt.pY p < top := ⟨Nat.lt_trans (Pt.pX_lt p) pp_top, Nat.lt_trans (Pt.pY_lt p) pp_top⟩

set_option maxRecDepth 100000 in
/-- The sum. -/
theorem rplus_calls (p q : Pt.Q) (w : World) :
    Calls Try.prog 21 #[.agg #[.int .u64 (wd (Pt.pX p.1) 0), .int .u64 (wd (Pt.pX p.1) 1), .int .u64 (wd (Pt.pX p.1) 2), .int .u64 (wd (Pt.pX p.1) 3), .int .u64 (wd (Pt.pY p.1) 0), .int .u64 (wd (Pt.pY p.1) 1), .int .u64 (wd (Pt.pY p.1) 2), .int .u64 (wd (Pt.pY p.1) 3), .bool (Pt.pFar p.1)], .agg #[.int .u64 (wd (Pt.pX q.1) 0), .int .u64 (wd (Pt.pX q.1) 1), .int .u64 (wd (Pt.pX q.1) 2), .int .u64 (wd (Pt.pX q.1) 3), .int .u64 (wd (Pt.pY q.1) 0), .int .u64 (wd (Pt.pY q.1) 1), .int .u64 (wd (Pt.pY q.1) 2), .int .u64 (wd (Pt.pY q.1) 3), .bool (Pt.pFar q.1)]] w fun e w' => e = .returned (.agg #[.int .u64 (wd (Pt.pX (Pt.grp.op p q).1) 0), .int .u64 (wd (Pt.pX (Pt.grp.op p q).1) 1), .int .u64 (wd (Pt.pX (Pt.grp.op p q).1) 2), .int .u64 (wd (Pt.pX (Pt.grp.op p q).1) 3), .int .u64 (wd (Pt.pY (Pt.grp.op p q).1) 0), .int .u64 (wd (Pt.pY (Pt.grp.op p q).1) 1), .int .u64 (wd (Pt.pY (Pt.grp.op p q).1) 2), .int .u64 (wd (Pt.pY (Pt.grp.op p q).1) 3), .bool (Pt.pFar (Pt.grp.op p q).1)]) ∧ Below w.heap.size w w' := by
  obtain ⟨p, hp⟩ := p
  obtain ⟨q, hq⟩ := q
  show Calls Try.prog 21 #[.agg #[.int .u64 (wd (Pt.pX p) 0), .int .u64 (wd (Pt.pX p) 1), .int .u64 (wd (Pt.pX p) 2), .int .u64 (wd (Pt.pX p) 3), .int .u64 (wd (Pt.pY p) 0), .int .u64 (wd (Pt.pY p) 1), .int .u64 (wd (Pt.pY p) 2), .int .u64 (wd (Pt.pY p) 3), .bool (Pt.pFar p)], .agg #[.int .u64 (wd (Pt.pX q) 0), .int .u64 (wd (Pt.pX q) 1), .int .u64 (wd (Pt.pX q) 2), .int .u64 (wd (Pt.pX q) 3), .int .u64 (wd (Pt.pY q) 0), .int .u64 (wd (Pt.pY q) 1), .int .u64 (wd (Pt.pY q) 2), .int .u64 (wd (Pt.pY q) 3), .bool (Pt.pFar q)]] w fun e w' => e = .returned (.agg #[.int .u64 (wd (Pt.pX (Pt.E256.add p q)) 0), .int .u64 (wd (Pt.pX (Pt.E256.add p q)) 1), .int .u64 (wd (Pt.pX (Pt.E256.add p q)) 2), .int .u64 (wd (Pt.pX (Pt.E256.add p q)) 3), .int .u64 (wd (Pt.pY (Pt.E256.add p q)) 0), .int .u64 (wd (Pt.pY (Pt.E256.add p q)) 1), .int .u64 (wd (Pt.pY (Pt.E256.add p q)) 2), .int .u64 (wd (Pt.pY (Pt.E256.add p q)) 3), .bool (Pt.pFar (Pt.E256.add p q))]) ∧ Below w.heap.size w w'
  rcases p with _ | ⟨x1, y1⟩
  · rw [Pt.none_add]
    exact radd_far1 0 0 (Pt.pX q) (Pt.pY q) (Pt.pFar q) w
  · rcases q with _ | ⟨x2, y2⟩
    · rw [Pt.add_none]
      exact radd_far2 x1.val y1.val 0 0 w
    · by_cases h : x1 = x2 ∧ y1 = 0 - y2
      · rw [Pt.add_far h]
        have e := radd_opp x1.val y1.val x2.val y2.val (p_top (some (x1, y1))).1 (p_top (some (x1, y1))).2 (p_top (some (x2, y2))).1 y2.isLt ⟨by rw [h.1], by rw [← v_zero, Pt.v_sub, ← h.2]⟩ w
        rw [← far_pt] at e
        exact e
      · rw [Pt.add_near h]
        by_cases hs : x1 = x2 ∧ y1 = y2
        · obtain ⟨rfl, rfl⟩ := hs
          have hn : ¬ y1.val = (0 + Pt.pp - y1.val) % Pt.pp := fun e => h ⟨rfl, Fin.ext (by rw [← Pt.v_sub, v_zero]; exact e)⟩
          have hB : ((x1 * x1).val + Pt.pp - 1) % Pt.pp = (x1 * x1 - 1).val := by rw [← Pt.v_sub, v_one]
          have hU : 3 * (x1 * x1 - 1).val % Pt.pp = (3 * (x1 * x1 - 1)).val := by rw [← Pt.v_mul, v_three]
          refine (radd_same x1.val y1.val (x1 * x1).val (x1 * x1 - 1).val (3 * (x1 * x1 - 1)).val (y1 + y1).val x1.isLt y1.isLt hn (Pt.v_mul _ _).symm hB.symm hU.symm (Pt.v_add _ _).symm w).mono ?_
          rintro e w' ⟨T, hT1, hT2, rfl, hb⟩
          have hT := Pt.v_inv hT1 (hT2 (Pt.v_gcd (Pt.down_same hp)))
          have hl : (3 * (x1 * x1 - 1)).val * T % Pt.pp = (Pt.E256.lam x1 y1 x1 y1).val := by rw [hT, Pt.v_mul, Pt.lam_same]
          rw [x3_val x1 x1 hl, y3_val x1 y1 x1 hl]
          exact ⟨rfl, hb⟩
        · have hn : ¬ (x1.val = x2.val ∧ y1.val = (0 + Pt.pp - y2.val) % Pt.pp) := fun e => h ⟨Fin.ext e.1, Fin.ext (by rw [← Pt.v_sub, v_zero]; exact e.2)⟩
          have hs' : ¬ (x1.val = x2.val ∧ y1.val = y2.val) := fun e => hs ⟨Fin.ext e.1, Fin.ext e.2⟩
          refine (radd_else x1.val y1.val x2.val y2.val (y2 - y1).val (x2 - x1).val x1.isLt y1.isLt x2.isLt y2.isLt hn hs' (Pt.v_sub _ _).symm (Pt.v_sub _ _).symm w).mono ?_
          rintro e w' ⟨T, hT1, hT2, rfl, hb⟩
          have hT := Pt.v_inv hT1 (hT2 (Pt.v_gcd (Pt.down_else hp hq h hs)))
          have hl : (y2 - y1).val * T % Pt.pp = (Pt.E256.lam x1 y1 x2 y2).val := by rw [hT, Pt.v_mul, Pt.lam_else hs]
          rw [x3_val x1 x2 hl, y3_val x1 y1 x2 hl]
          exact ⟨rfl, hb⟩

set_option maxRecDepth 100000 in
/-- The one that takes one away. -/
theorem rneg_calls (p : Pt.Q) (w : World) :
    Calls Try.prog 20 #[.agg #[.int .u64 (wd (Pt.pX p.1) 0), .int .u64 (wd (Pt.pX p.1) 1), .int .u64 (wd (Pt.pX p.1) 2), .int .u64 (wd (Pt.pX p.1) 3), .int .u64 (wd (Pt.pY p.1) 0), .int .u64 (wd (Pt.pY p.1) 1), .int .u64 (wd (Pt.pY p.1) 2), .int .u64 (wd (Pt.pY p.1) 3), .bool (Pt.pFar p.1)]] w fun e w' => e = .returned (.agg #[.int .u64 (wd (Pt.pX (Pt.grp.ng p).1) 0), .int .u64 (wd (Pt.pX (Pt.grp.ng p).1) 1), .int .u64 (wd (Pt.pX (Pt.grp.ng p).1) 2), .int .u64 (wd (Pt.pX (Pt.grp.ng p).1) 3), .int .u64 (wd (Pt.pY (Pt.grp.ng p).1) 0), .int .u64 (wd (Pt.pY (Pt.grp.ng p).1) 1), .int .u64 (wd (Pt.pY (Pt.grp.ng p).1) 2), .int .u64 (wd (Pt.pY (Pt.grp.ng p).1) 3), .bool (Pt.pFar (Pt.grp.ng p).1)]) ∧ Below w.heap.size w w' := by
  obtain ⟨p, hp⟩ := p
  show Calls Try.prog 20 #[.agg #[.int .u64 (wd (Pt.pX p) 0), .int .u64 (wd (Pt.pX p) 1), .int .u64 (wd (Pt.pX p) 2), .int .u64 (wd (Pt.pX p) 3), .int .u64 (wd (Pt.pY p) 0), .int .u64 (wd (Pt.pY p) 1), .int .u64 (wd (Pt.pY p) 2), .int .u64 (wd (Pt.pY p) 3), .bool (Pt.pFar p)]] w fun e w' => e = .returned (.agg #[.int .u64 (wd (Pt.pX (Pt.neg p)) 0), .int .u64 (wd (Pt.pX (Pt.neg p)) 1), .int .u64 (wd (Pt.pX (Pt.neg p)) 2), .int .u64 (wd (Pt.pX (Pt.neg p)) 3), .int .u64 (wd (Pt.pY (Pt.neg p)) 0), .int .u64 (wd (Pt.pY (Pt.neg p)) 1), .int .u64 (wd (Pt.pY (Pt.neg p)) 2), .int .u64 (wd (Pt.pY (Pt.neg p)) 3), .bool (Pt.pFar (Pt.neg p))]) ∧ Below w.heap.size w w'
  rcases p with _ | ⟨x, y⟩
  · exact rneg_is 0 0 0 true pp_pos (by rw [Nat.zero_add, Nat.sub_zero, Nat.mod_self]) w
  · exact rneg_is x.val y.val (- y).val false y.isLt (by rw [← Pt.ring_neg2, ← Pt.v_sub, v_zero]) w

set_option maxRecDepth 100000 in
/-- On, in numbers, is on the curve. -/
theorem right_val (x : Fin Pt.pp) : rightN x.val = (x * x * x - 3 * x + Pt.F Pt.bb).val := by
  unfold rightN
  have e3 : 3 * x.val % Pt.pp = (3 * x).val := by rw [← Pt.v_mul, v_three]
  have eb : Pt.bb = (Pt.F Pt.bb : Fin Pt.pp).val := (Nat.mod_eq_of_lt bb_lt).symm
  rw [e3, Pt.v_mul, Pt.v_mul, Pt.v_sub]
  conv => lhs; rw [eb]
  rw [Pt.v_add]
set_option maxRecDepth 100000 in
theorem onB_iff (X Y : Nat) (f : Bool) : onB X Y f = true ↔ Pt.isOn X Y f := by
  unfold onB Pt.isOn
  cases f with
  | true => simp
  | false =>
    simp only [Bool.false_eq_true, if_false, Bool.and_eq_true, decide_eq_true_eq]
    constructor
    · rintro ⟨hx, hy, h⟩
      refine ⟨hx, hy, (Pt.on_iff _ _).2 (Fin.ext ?_)⟩
      have ex : X = (Pt.F X : Fin Pt.pp).val := (Nat.mod_eq_of_lt hx).symm
      have ey : Y = (Pt.F Y : Fin Pt.pp).val := (Nat.mod_eq_of_lt hy).symm
      rw [← Pt.v_mul, ← right_val, ← ex, ← ey]
      exact h
    · rintro ⟨hx, hy, h⟩
      refine ⟨hx, hy, ?_⟩
      have ex : X = (Pt.F X : Fin Pt.pp).val := (Nat.mod_eq_of_lt hx).symm
      have ey : Y = (Pt.F Y : Fin Pt.pp).val := (Nat.mod_eq_of_lt hy).symm
      have h2 := congrArg Fin.val ((Pt.on_iff _ _).1 h)
      rw [← Pt.v_mul, ← right_val, ← ex, ← ey] at h2
      exact h2
set_option maxRecDepth 100000 in
theorem onB_some {X Y : Nat} {f : Bool} (h : onB X Y f = true) : ∃ q : Pt.Q, X = Pt.pX q.1 ∧ Y = Pt.pY q.1 ∧ f = Pt.pFar q.1 := (Pt.isOn_iff X Y f).1 ((onB_iff X Y f).1 h)
set_option maxRecDepth 100000 in
theorem onB_of (q : Pt.Q) : onB (Pt.pX q.1) (Pt.pY q.1) (Pt.pFar q.1) = true := (onB_iff _ _ _).2 ((Pt.isOn_iff _ _ _).2 ⟨q, rfl, rfl, rfl⟩)
end Go.Proofs.Ytppfcdpokgnpfaa


/-
  clapperref05.Mul: multiples of a point on the curve.
-/
namespace Go.Proofs.Ytppfcdpokgnpfaa
open Go.RowKit

set_option maxRecDepth 100000 in
theorem bl_le {X : Nat} (hX : X < top) : bitLen X ≤ 256 := by
  unfold bitLen
  split
  · omega
  · rename_i h
    have := (Nat.log2_lt h).2 (show X < 2 ^ 256 by rw [← top_two]; exact hX)
    omega
set_option maxRecDepth 100000 in
theorem bl_div (X : Nat) : X / 2 ^ bitLen X = 0 := Nat.div_eq_of_lt (bitLen_spec X).1
set_option maxRecDepth 100000 in
theorem far_row {w : World} {b t : Nat} (hb : b = w.heap.size) : (w.alloc (.cells #[.int .u64 0, .int .u64 0, .int .u64 0, .int .u64 0, .int .u64 0, .int .u64 0, .int .u64 0, .int .u64 0, .bool true] t)).rowIs b t 9 (pc 0 0 true) := row_new (n := 9) hb rfl fun i hi => by
  have h := arr9 0 0 true i hi
  simp only [wd_nil] at h
  exact h
set_option maxRecDepth 100000 in
theorem times_step (K m : Nat) (q : Pt.Q) : Pt.grp.mul (K / 2 ^ m) q = if bit K m = true then Pt.grp.op (Pt.grp.op (Pt.grp.mul (K / 2 ^ (m + 1)) q) (Pt.grp.mul (K / 2 ^ (m + 1)) q)) q else Pt.grp.op (Pt.grp.mul (K / 2 ^ (m + 1)) q) (Pt.grp.mul (K / 2 ^ (m + 1)) q) := by
  rw [Pt.mul_top]
  have hb : (bit K m = true) = (K / 2 ^ m % 2 = 1) := by unfold bit; simp
  simp only [hb]

set_option maxRecDepth 100000 in
set_option maxHeartbeats 8000000 in
theorem rtimes_calls (K : Nat) (hKt : K < top) (q : Pt.Q) (w : World) :
    Calls Try.prog 23 #[.agg #[.int .u64 (wd (K) 0), .int .u64 (wd (K) 1), .int .u64 (wd (K) 2), .int .u64 (wd (K) 3)], .agg #[.int .u64 (wd (Pt.pX q.1) 0), .int .u64 (wd (Pt.pX q.1) 1), .int .u64 (wd (Pt.pX q.1) 2), .int .u64 (wd (Pt.pX q.1) 3), .int .u64 (wd (Pt.pY q.1) 0), .int .u64 (wd (Pt.pY q.1) 1), .int .u64 (wd (Pt.pY q.1) 2), .int .u64 (wd (Pt.pY q.1) 3), .bool (Pt.pFar q.1)]] w fun e w' => e = .returned (.agg #[.int .u64 (wd (Pt.pX (Pt.grp.mul K q).1) 0), .int .u64 (wd (Pt.pX (Pt.grp.mul K q).1) 1), .int .u64 (wd (Pt.pX (Pt.grp.mul K q).1) 2), .int .u64 (wd (Pt.pX (Pt.grp.mul K q).1) 3), .int .u64 (wd (Pt.pY (Pt.grp.mul K q).1) 0), .int .u64 (wd (Pt.pY (Pt.grp.mul K q).1) 1), .int .u64 (wd (Pt.pY (Pt.grp.mul K q).1) 2), .int .u64 (wd (Pt.pY (Pt.grp.mul K q).1) 3), .bool (Pt.pFar (Pt.grp.mul K q).1)]) ∧ Below w.heap.size w w' := by
  have hK : (((w.alloc (.cells #[.int .u64 (wd (K) 0), .int .u64 (wd (K) 1), .int .u64 (wd (K) 2), .int .u64 (wd (K) 3)] 24)).alloc (.cells #[.int .u64 (wd (Pt.pX q.1) 0), .int .u64 (wd (Pt.pX q.1) 1), .int .u64 (wd (Pt.pX q.1) 2), .int .u64 (wd (Pt.pX q.1) 3), .int .u64 (wd (Pt.pY q.1) 0), .int .u64 (wd (Pt.pY q.1) 1), .int .u64 (wd (Pt.pY q.1) 2), .int .u64 (wd (Pt.pY q.1) 3), .bool (Pt.pFar q.1)] 26)).alloc (.cells #[.int .u64 0, .int .u64 0, .int .u64 0, .int .u64 0, .int .u64 0, .int .u64 0, .int .u64 0, .int .u64 0, .bool false] 26)).rowIs w.heap.size 24 4 (fun j => .int .u64 (wd K j)) := ((row_new (n := 4) rfl rfl (arr4 fun j => .int .u64 (wd K j))).alloc _).alloc _
  have hA : (((w.alloc (.cells #[.int .u64 (wd (K) 0), .int .u64 (wd (K) 1), .int .u64 (wd (K) 2), .int .u64 (wd (K) 3)] 24)).alloc (.cells #[.int .u64 (wd (Pt.pX q.1) 0), .int .u64 (wd (Pt.pX q.1) 1), .int .u64 (wd (Pt.pX q.1) 2), .int .u64 (wd (Pt.pX q.1) 3), .int .u64 (wd (Pt.pY q.1) 0), .int .u64 (wd (Pt.pY q.1) 1), .int .u64 (wd (Pt.pY q.1) 2), .int .u64 (wd (Pt.pY q.1) 3), .bool (Pt.pFar q.1)] 26)).alloc (.cells #[.int .u64 0, .int .u64 0, .int .u64 0, .int .u64 0, .int .u64 0, .int .u64 0, .int .u64 0, .int .u64 0, .bool false] 26)).rowIs (w.heap.size + 1) 26 9 (pc (Pt.pX q.1) (Pt.pY q.1) (Pt.pFar q.1)) := (pt_new _ _ _ (by simp)).alloc _
  have hR : (((w.alloc (.cells #[.int .u64 (wd (K) 0), .int .u64 (wd (K) 1), .int .u64 (wd (K) 2), .int .u64 (wd (K) 3)] 24)).alloc (.cells #[.int .u64 (wd (Pt.pX q.1) 0), .int .u64 (wd (Pt.pX q.1) 1), .int .u64 (wd (Pt.pX q.1) 2), .int .u64 (wd (Pt.pX q.1) 3), .int .u64 (wd (Pt.pY q.1) 0), .int .u64 (wd (Pt.pY q.1) 1), .int .u64 (wd (Pt.pY q.1) 2), .int .u64 (wd (Pt.pY q.1) 3), .bool (Pt.pFar q.1)] 26)).alloc (.cells #[.int .u64 0, .int .u64 0, .int .u64 0, .int .u64 0, .int .u64 0, .int .u64 0, .int .u64 0, .int .u64 0, .bool false] 26)).rowIs (w.heap.size + 1 + 1) 26 9 (pc 0 0 false) := zero_row (by simp)
  have hB : Below w.heap.size w (((w.alloc (.cells #[.int .u64 (wd (K) 0), .int .u64 (wd (K) 1), .int .u64 (wd (K) 2), .int .u64 (wd (K) 3)] 24)).alloc (.cells #[.int .u64 (wd (Pt.pX q.1) 0), .int .u64 (wd (Pt.pX q.1) 1), .int .u64 (wd (Pt.pX q.1) 2), .int .u64 (wd (Pt.pX q.1) 3), .int .u64 (wd (Pt.pY q.1) 0), .int .u64 (wd (Pt.pY q.1) 1), .int .u64 (wd (Pt.pY q.1) 2), .int .u64 (wd (Pt.pY q.1) 3), .bool (Pt.pFar q.1)] 26)).alloc (.cells #[.int .u64 0, .int .u64 0, .int .u64 0, .int .u64 0, .int .u64 0, .int .u64 0, .int .u64 0, .int .u64 0, .bool false] 26)) := (((Below.refl _ _).alloc (by simp) _).alloc (by simp) _).alloc (by simp; omega) _
  have hz : (((w.alloc (.cells #[.int .u64 (wd (K) 0), .int .u64 (wd (K) 1), .int .u64 (wd (K) 2), .int .u64 (wd (K) 3)] 24)).alloc (.cells #[.int .u64 (wd (Pt.pX q.1) 0), .int .u64 (wd (Pt.pX q.1) 1), .int .u64 (wd (Pt.pX q.1) 2), .int .u64 (wd (Pt.pX q.1) 3), .int .u64 (wd (Pt.pY q.1) 0), .int .u64 (wd (Pt.pY q.1) 1), .int .u64 (wd (Pt.pY q.1) 2), .int .u64 (wd (Pt.pY q.1) 3), .bool (Pt.pFar q.1)] 26)).alloc (.cells #[.int .u64 0, .int .u64 0, .int .u64 0, .int .u64 0, .int .u64 0, .int .u64 0, .int .u64 0, .int .u64 0, .bool false] 26)).heap.size = w.heap.size + 1 + 1 + 1 := by simp
  have hL : bitLen K ≤ 256 := bl_le hKt
  have hE : K / 2 ^ bitLen K = 0 := bl_div K
  have HT := veil hKt
  clear hKt
  go_enter Try.func23, Try.ntmps23
  go_upto_region 1 with (fail)
  generalize (((w.alloc (.cells #[.int .u64 (wd (K) 0), .int .u64 (wd (K) 1), .int .u64 (wd (K) 2), .int .u64 (wd (K) 3)] 24)).alloc (.cells #[.int .u64 (wd (Pt.pX q.1) 0), .int .u64 (wd (Pt.pX q.1) 1), .int .u64 (wd (Pt.pX q.1) 2), .int .u64 (wd (Pt.pX q.1) 3), .int .u64 (wd (Pt.pY q.1) 0), .int .u64 (wd (Pt.pY q.1) 1), .int .u64 (wd (Pt.pY q.1) 2), .int .u64 (wd (Pt.pY q.1) 3), .bool (Pt.pFar q.1)] 26)).alloc (.cells #[.int .u64 0, .int .u64 0, .int .u64 0, .int .u64 0, .int .u64 0, .int .u64 0, .int .u64 0, .int .u64 0, .bool false] 26)) = w0 at *
  go_upto_region 2 with (fail)
  have hO : (w0.alloc (.cells #[.int .u64 0, .int .u64 0, .int .u64 0, .int .u64 0, .int .u64 0, .int .u64 0, .int .u64 0, .int .u64 0, .bool true] 26)).rowIs (w.heap.size + 1 + 1 + 1) 26 9 (pc (Pt.pX (Pt.grp.mul (K / 2 ^ bitLen K) q).1) (Pt.pY (Pt.grp.mul (K / 2 ^ bitLen K) q).1) (Pt.pFar (Pt.grp.mul (K / 2 ^ bitLen K) q).1)) := by
    rw [hE]
    exact far_row hz.symm
  replace hK := hK.alloc (.cells #[.int .u64 0, .int .u64 0, .int .u64 0, .int .u64 0, .int .u64 0, .int .u64 0, .int .u64 0, .int .u64 0, .bool true] 26)
  replace hA := hA.alloc (.cells #[.int .u64 0, .int .u64 0, .int .u64 0, .int .u64 0, .int .u64 0, .int .u64 0, .int .u64 0, .int .u64 0, .bool true] 26)
  replace hR := hR.alloc (.cells #[.int .u64 0, .int .u64 0, .int .u64 0, .int .u64 0, .int .u64 0, .int .u64 0, .int .u64 0, .int .u64 0, .bool true] 26)
  replace hB := hB.alloc hB.size (.cells #[.int .u64 0, .int .u64 0, .int .u64 0, .int .u64 0, .int .u64 0, .int .u64 0, .int .u64 0, .int .u64 0, .bool true] 26)
  generalize w0.alloc (.cells #[.int .u64 0, .int .u64 0, .int .u64 0, .int .u64 0, .int .u64 0, .int .u64 0, .int .u64 0, .int .u64 0, .bool true] 26) = w1 at *
  have HL := veil hL
  clear hz hE hL
  obtain ⟨k0, k1, k2, k3⟩ := row_c4 hK
  go_wp2_with fail
  refine (rlen_calls K HT.out _).mono ?_
  rintro e w2 ⟨rfl, hb⟩
  clear k0 k1 k2 k3
  replace hK := row_below hK hb hK.lt
  replace hA := row_below hA hb hA.lt
  replace hR := row_below hR hb hR.lt
  replace hO := row_below hO hb hO.lt
  replace hB := hB.trans (hb.mono hB.size)
  clear hb
  obtain ⟨N, hN⟩ : ∃ N, N = bitLen K := ⟨_, rfl⟩
  rw [← hN] at hO ⊢
  have hN2 : N ≤ 256 := by rw [hN]; exact HL.out
  clear hN
  go_wp2
  go_loopw [6] (fun v6 wr => ∃ j : Nat, j ≤ 256 ∧ v6 = .int .i64 ((j : Int) - 1) ∧ wr.rowIs w.heap.size 24 4 (fun i => .int .u64 (wd K i)) ∧ wr.rowIs (w.heap.size + 1) 26 9 (pc (Pt.pX q.1) (Pt.pY q.1) (Pt.pFar q.1)) ∧ wr.rowIs (w.heap.size + 1 + 1) 26 9 (pc 0 0 false) ∧ wr.rowIs (w.heap.size + 1 + 1 + 1) 26 9 (pc (Pt.pX (Pt.grp.mul (K / 2 ^ j) q).1) (Pt.pY (Pt.grp.mul (K / 2 ^ j) q).1) (Pt.pFar (Pt.grp.mul (K / 2 ^ j) q).1)) ∧ Below w.heap.size w wr)
    (fun v6 _ => (intOf v6 + 1).toNat)
  case atStart => exact ⟨N, hN2, by go_num, hK, hA, hR, hO, hB⟩
  case round =>
    clear hK hA hR hO hB hN2
    obtain ⟨j, hj, hi, hK, hA, hR, hO, hB⟩ := hrel
    cases j with
    | zero =>
      obtain rfl : _ = Value.int .i64 (-1) := hi.trans (by congr 1)
      have HO := veil (blk9 hO)
      have HR := veil (blkOf hR)
      have e1 : Pt.grp.mul (K / 2 ^ 0) q = Pt.grp.mul K q := by rw [Nat.pow_zero, Nat.div_one]
      rw [e1] at HO
      clear hO hR hi e1
      go_wp2_with (first
        | ((with_reducible refine at_slot 26 ?_); refine wpList_load_row rfl 26 _ rfl (w.heap.size + 1 + 1 + 1) rfl 26 #[.int .u64 (wd (Pt.pX (Pt.grp.mul K q).1) 0), .int .u64 (wd (Pt.pX (Pt.grp.mul K q).1) 1), .int .u64 (wd (Pt.pX (Pt.grp.mul K q).1) 2), .int .u64 (wd (Pt.pX (Pt.grp.mul K q).1) 3), .int .u64 (wd (Pt.pY (Pt.grp.mul K q).1) 0), .int .u64 (wd (Pt.pY (Pt.grp.mul K q).1) 1), .int .u64 (wd (Pt.pY (Pt.grp.mul K q).1) 2), .int .u64 (wd (Pt.pY (Pt.grp.mul K q).1) 3), .bool (Pt.pFar (Pt.grp.mul K q).1)] (0, 0) _ HO.out Try.underlying26 rfl info_pt ?_)
        | ((with_reducible refine at_none ?_); refine wpList_store_row rfl 26 _ _ rfl (w.heap.size + 1 + 1) #[.int .u64 (wd (Pt.pX (Pt.grp.mul K q).1) 0), .int .u64 (wd (Pt.pX (Pt.grp.mul K q).1) 1), .int .u64 (wd (Pt.pX (Pt.grp.mul K q).1) 2), .int .u64 (wd (Pt.pX (Pt.grp.mul K q).1) 3), .int .u64 (wd (Pt.pY (Pt.grp.mul K q).1) 0), .int .u64 (wd (Pt.pY (Pt.grp.mul K q).1) 1), .int .u64 (wd (Pt.pY (Pt.grp.mul K q).1) 2), .int .u64 (wd (Pt.pY (Pt.grp.mul K q).1) 3), .bool (Pt.pFar (Pt.grp.mul K q).1)] rfl rfl 26 _ HR.out info_pt (by rw [arrOf_size]; rfl) (one9 _ _ _) ?_))
      exact bodyPost_ret (results_cell_row rfl _ _ (w.heap.size + 1 + 1) 26 #[.int .u64 (wd (Pt.pX (Pt.grp.mul K q).1) 0), .int .u64 (wd (Pt.pX (Pt.grp.mul K q).1) 1), .int .u64 (wd (Pt.pX (Pt.grp.mul K q).1) 2), .int .u64 (wd (Pt.pX (Pt.grp.mul K q).1) 3), .int .u64 (wd (Pt.pY (Pt.grp.mul K q).1) 0), .int .u64 (wd (Pt.pY (Pt.grp.mul K q).1) 1), .int .u64 (wd (Pt.pY (Pt.grp.mul K q).1) 2), .int .u64 (wd (Pt.pY (Pt.grp.mul K q).1) 3), .bool (Pt.pFar (Pt.grp.mul K q).1)] (0, 0) _ rfl (setRow_heap wr (w.heap.size + 1 + 1) _ #[.int .u64 (wd (Pt.pX (Pt.grp.mul K q).1) 0), .int .u64 (wd (Pt.pX (Pt.grp.mul K q).1) 1), .int .u64 (wd (Pt.pX (Pt.grp.mul K q).1) 2), .int .u64 (wd (Pt.pX (Pt.grp.mul K q).1) 3), .int .u64 (wd (Pt.pY (Pt.grp.mul K q).1) 0), .int .u64 (wd (Pt.pY (Pt.grp.mul K q).1) 1), .int .u64 (wd (Pt.pY (Pt.grp.mul K q).1) 2), .int .u64 (wd (Pt.pY (Pt.grp.mul K q).1) 3), .bool (Pt.pFar (Pt.grp.mul K q).1)] 26 (0, 0) HR.out) Try.underlying26 rfl info_pt) rfl ⟨rfl, below_setRow hB (by omega) _⟩
    | succ m =>
      obtain rfl : _ = Value.int .i64 (m : Int) := hi.trans (by congr 1; omega)
      have hm : m < 256 := by omega
      clear hi
      have hmi : (0 : Int) ≤ (m : Int) := by omega
      obtain ⟨R0, hR0⟩ : ∃ R, R = Pt.grp.mul (K / 2 ^ (m + 1)) q := ⟨_, rfl⟩
      rw [← hR0] at hO
      have HR0 := veil hR0
      clear hR0
      have hne1 : w.heap.size ≠ (w.heap.size + 1 + 1 + 1) := by omega
      have hne2 : w.heap.size + 1 ≠ (w.heap.size + 1 + 1 + 1) := by omega
      have hne3 : w.heap.size + 1 + 1 ≠ (w.heap.size + 1 + 1 + 1) := by omega
      have HO := veil (blk9 hO)
      go_wp2_with (first
        | ((with_reducible refine at_slot 16 ?_); refine wpList_load_row rfl 26 _ rfl (w.heap.size + 1 + 1 + 1) rfl 26 #[.int .u64 (wd (Pt.pX R0.1) 0), .int .u64 (wd (Pt.pX R0.1) 1), .int .u64 (wd (Pt.pX R0.1) 2), .int .u64 (wd (Pt.pX R0.1) 3), .int .u64 (wd (Pt.pY R0.1) 0), .int .u64 (wd (Pt.pY R0.1) 1), .int .u64 (wd (Pt.pY R0.1) 2), .int .u64 (wd (Pt.pY R0.1) 3), .bool (Pt.pFar R0.1)] (0, 0) _ HO.out Try.underlying26 rfl info_pt ?_)
        | ((with_reducible refine at_slot 17 ?_); refine wpList_load_row rfl 26 _ rfl (w.heap.size + 1 + 1 + 1) rfl 26 #[.int .u64 (wd (Pt.pX R0.1) 0), .int .u64 (wd (Pt.pX R0.1) 1), .int .u64 (wd (Pt.pX R0.1) 2), .int .u64 (wd (Pt.pX R0.1) 3), .int .u64 (wd (Pt.pY R0.1) 0), .int .u64 (wd (Pt.pY R0.1) 1), .int .u64 (wd (Pt.pY R0.1) 2), .int .u64 (wd (Pt.pY R0.1) 3), .bool (Pt.pFar R0.1)] (0, 0) _ HO.out Try.underlying26 rfl info_pt ?_))
      refine (rplus_calls R0 R0 _).mono ?_
      rintro e w5 ⟨rfl, hb⟩
      replace hK := row_below hK hb hK.lt
      replace hA := row_below hA hb hA.lt
      replace hR := row_below hR hb hR.lt
      replace hO := row_below hO hb hO.lt
      replace hB := hB.trans (hb.mono hB.size)
      obtain ⟨R1, h1⟩ : ∃ R, R = Pt.grp.op R0 R0 := ⟨_, rfl⟩
      rw [← h1]
      have HR1 := veil h1
      have HO := veil (blkOf hO)
      clear hb h1
      go_upto_region 6 with (first
        | ((with_reducible refine at_none ?_); refine wpList_store_row rfl 26 _ _ rfl (w.heap.size + 1 + 1 + 1) #[.int .u64 (wd (Pt.pX R1.1) 0), .int .u64 (wd (Pt.pX R1.1) 1), .int .u64 (wd (Pt.pX R1.1) 2), .int .u64 (wd (Pt.pX R1.1) 3), .int .u64 (wd (Pt.pY R1.1) 0), .int .u64 (wd (Pt.pY R1.1) 1), .int .u64 (wd (Pt.pY R1.1) 2), .int .u64 (wd (Pt.pY R1.1) 3), .bool (Pt.pFar R1.1)] rfl rfl 26 _ HO.out info_pt (by rw [arrOf_size]; rfl) (one9 _ _ _) ?_))
      have hO' : (w5.setRow (w.heap.size + 1 + 1 + 1) #[.int .u64 (wd (Pt.pX R1.1) 0), .int .u64 (wd (Pt.pX R1.1) 1), .int .u64 (wd (Pt.pX R1.1) 2), .int .u64 (wd (Pt.pX R1.1) 3), .int .u64 (wd (Pt.pY R1.1) 0), .int .u64 (wd (Pt.pY R1.1) 1), .int .u64 (wd (Pt.pY R1.1) 2), .int .u64 (wd (Pt.pY R1.1) 3), .bool (Pt.pFar R1.1)]).rowIs (w.heap.size + 1 + 1 + 1) 26 9 (pc (Pt.pX R1.1) (Pt.pY R1.1) (Pt.pFar R1.1)) := row_setRow hO rfl (arr9 _ _ _)
      replace hK := hK.of_block (setRow_far w5 #[.int .u64 (wd (Pt.pX R1.1) 0), .int .u64 (wd (Pt.pX R1.1) 1), .int .u64 (wd (Pt.pX R1.1) 2), .int .u64 (wd (Pt.pX R1.1) 3), .int .u64 (wd (Pt.pY R1.1) 0), .int .u64 (wd (Pt.pY R1.1) 1), .int .u64 (wd (Pt.pY R1.1) 2), .int .u64 (wd (Pt.pY R1.1) 3), .bool (Pt.pFar R1.1)] (by omega))
      replace hA := hA.of_block (setRow_far w5 #[.int .u64 (wd (Pt.pX R1.1) 0), .int .u64 (wd (Pt.pX R1.1) 1), .int .u64 (wd (Pt.pX R1.1) 2), .int .u64 (wd (Pt.pX R1.1) 3), .int .u64 (wd (Pt.pY R1.1) 0), .int .u64 (wd (Pt.pY R1.1) 1), .int .u64 (wd (Pt.pY R1.1) 2), .int .u64 (wd (Pt.pY R1.1) 3), .bool (Pt.pFar R1.1)] (by omega))
      replace hR := hR.of_block (setRow_far w5 #[.int .u64 (wd (Pt.pX R1.1) 0), .int .u64 (wd (Pt.pX R1.1) 1), .int .u64 (wd (Pt.pX R1.1) 2), .int .u64 (wd (Pt.pX R1.1) 3), .int .u64 (wd (Pt.pY R1.1) 0), .int .u64 (wd (Pt.pY R1.1) 1), .int .u64 (wd (Pt.pY R1.1) 2), .int .u64 (wd (Pt.pY R1.1) 3), .bool (Pt.pFar R1.1)] (by omega))
      replace hB := below_setRow hB (show w.heap.size ≤ (w.heap.size + 1 + 1 + 1) by omega) #[.int .u64 (wd (Pt.pX R1.1) 0), .int .u64 (wd (Pt.pX R1.1) 1), .int .u64 (wd (Pt.pX R1.1) 2), .int .u64 (wd (Pt.pX R1.1) 3), .int .u64 (wd (Pt.pY R1.1) 0), .int .u64 (wd (Pt.pY R1.1) 1), .int .u64 (wd (Pt.pY R1.1) 2), .int .u64 (wd (Pt.pY R1.1) 3), .bool (Pt.pFar R1.1)]
      generalize w5.setRow (w.heap.size + 1 + 1 + 1) #[.int .u64 (wd (Pt.pX R1.1) 0), .int .u64 (wd (Pt.pX R1.1) 1), .int .u64 (wd (Pt.pX R1.1) 2), .int .u64 (wd (Pt.pX R1.1) 3), .int .u64 (wd (Pt.pY R1.1) 0), .int .u64 (wd (Pt.pY R1.1) 1), .int .u64 (wd (Pt.pY R1.1) 2), .int .u64 (wd (Pt.pY R1.1) 3), .bool (Pt.pFar R1.1)] = w6 at *
      clear hO HO
      have hO := hO'
      clear hO'
      have hbc := fun W => rbit_in K m hm W
      by_cases hbit : bit K m = true
      · rw [hbit] at hbc
        have HBIT := veil hbit
        clear hbit
        obtain ⟨k0, k1, k2, k3⟩ := row_c4 hK
        have HC := veil hbc
        clear hbc
        go_wp2_with fail
        refine (HC.out _).mono ?_
        rintro e w7 ⟨rfl, hb⟩
        clear k0 k1 k2 k3
        replace hK := row_below hK hb hK.lt
        replace hA := row_below hA hb hA.lt
        replace hR := row_below hR hb hR.lt
        replace hO := row_below hO hb hO.lt
        replace hB := hB.trans (hb.mono hB.size)
        clear hb
        have HO := veil (blk9 hO)
        have HA := veil (blk9 hA)
        go_upto_region 8 with (fail)
        go_wp2_with (first
          | ((with_reducible refine at_slot 23 ?_); refine wpList_load_row rfl 26 _ rfl (w.heap.size + 1 + 1 + 1) rfl 26 #[.int .u64 (wd (Pt.pX R1.1) 0), .int .u64 (wd (Pt.pX R1.1) 1), .int .u64 (wd (Pt.pX R1.1) 2), .int .u64 (wd (Pt.pX R1.1) 3), .int .u64 (wd (Pt.pY R1.1) 0), .int .u64 (wd (Pt.pY R1.1) 1), .int .u64 (wd (Pt.pY R1.1) 2), .int .u64 (wd (Pt.pY R1.1) 3), .bool (Pt.pFar R1.1)] (0, 0) _ HO.out Try.underlying26 rfl info_pt ?_)
          | ((with_reducible refine at_slot 24 ?_); refine wpList_load_row rfl 26 _ rfl (w.heap.size + 1) rfl 26 #[.int .u64 (wd (Pt.pX q.1) 0), .int .u64 (wd (Pt.pX q.1) 1), .int .u64 (wd (Pt.pX q.1) 2), .int .u64 (wd (Pt.pX q.1) 3), .int .u64 (wd (Pt.pY q.1) 0), .int .u64 (wd (Pt.pY q.1) 1), .int .u64 (wd (Pt.pY q.1) 2), .int .u64 (wd (Pt.pY q.1) 3), .bool (Pt.pFar q.1)] (0, 0) _ HA.out Try.underlying26 rfl info_pt ?_))
        refine (rplus_calls R1 q _).mono ?_
        rintro e w5 ⟨rfl, hb⟩
        replace hK := row_below hK hb hK.lt
        replace hA := row_below hA hb hA.lt
        replace hR := row_below hR hb hR.lt
        replace hO := row_below hO hb hO.lt
        replace hB := hB.trans (hb.mono hB.size)
        obtain ⟨R2, h2⟩ : ∃ R, R = Pt.grp.op R1 q := ⟨_, rfl⟩
        rw [← h2]
        have HR2 := veil h2
        have HO := veil (blkOf hO)
        clear hb h2
        clear HA
        go_wp2_with (first
          | ((with_reducible refine at_none ?_); refine wpList_store_row rfl 26 _ _ rfl (w.heap.size + 1 + 1 + 1) #[.int .u64 (wd (Pt.pX R2.1) 0), .int .u64 (wd (Pt.pX R2.1) 1), .int .u64 (wd (Pt.pX R2.1) 2), .int .u64 (wd (Pt.pX R2.1) 3), .int .u64 (wd (Pt.pY R2.1) 0), .int .u64 (wd (Pt.pY R2.1) 1), .int .u64 (wd (Pt.pY R2.1) 2), .int .u64 (wd (Pt.pY R2.1) 3), .bool (Pt.pFar R2.1)] rfl rfl 26 _ HO.out info_pt (by rw [arrOf_size]; rfl) (one9 _ _ _) ?_))
        have hO' : (w5.setRow (w.heap.size + 1 + 1 + 1) #[.int .u64 (wd (Pt.pX R2.1) 0), .int .u64 (wd (Pt.pX R2.1) 1), .int .u64 (wd (Pt.pX R2.1) 2), .int .u64 (wd (Pt.pX R2.1) 3), .int .u64 (wd (Pt.pY R2.1) 0), .int .u64 (wd (Pt.pY R2.1) 1), .int .u64 (wd (Pt.pY R2.1) 2), .int .u64 (wd (Pt.pY R2.1) 3), .bool (Pt.pFar R2.1)]).rowIs (w.heap.size + 1 + 1 + 1) 26 9 (pc (Pt.pX R2.1) (Pt.pY R2.1) (Pt.pFar R2.1)) := row_setRow hO rfl (arr9 _ _ _)
        replace hK := hK.of_block (setRow_far w5 #[.int .u64 (wd (Pt.pX R2.1) 0), .int .u64 (wd (Pt.pX R2.1) 1), .int .u64 (wd (Pt.pX R2.1) 2), .int .u64 (wd (Pt.pX R2.1) 3), .int .u64 (wd (Pt.pY R2.1) 0), .int .u64 (wd (Pt.pY R2.1) 1), .int .u64 (wd (Pt.pY R2.1) 2), .int .u64 (wd (Pt.pY R2.1) 3), .bool (Pt.pFar R2.1)] (by omega))
        replace hA := hA.of_block (setRow_far w5 #[.int .u64 (wd (Pt.pX R2.1) 0), .int .u64 (wd (Pt.pX R2.1) 1), .int .u64 (wd (Pt.pX R2.1) 2), .int .u64 (wd (Pt.pX R2.1) 3), .int .u64 (wd (Pt.pY R2.1) 0), .int .u64 (wd (Pt.pY R2.1) 1), .int .u64 (wd (Pt.pY R2.1) 2), .int .u64 (wd (Pt.pY R2.1) 3), .bool (Pt.pFar R2.1)] (by omega))
        replace hR := hR.of_block (setRow_far w5 #[.int .u64 (wd (Pt.pX R2.1) 0), .int .u64 (wd (Pt.pX R2.1) 1), .int .u64 (wd (Pt.pX R2.1) 2), .int .u64 (wd (Pt.pX R2.1) 3), .int .u64 (wd (Pt.pY R2.1) 0), .int .u64 (wd (Pt.pY R2.1) 1), .int .u64 (wd (Pt.pY R2.1) 2), .int .u64 (wd (Pt.pY R2.1) 3), .bool (Pt.pFar R2.1)] (by omega))
        replace hB := below_setRow hB (show w.heap.size ≤ (w.heap.size + 1 + 1 + 1) by omega) #[.int .u64 (wd (Pt.pX R2.1) 0), .int .u64 (wd (Pt.pX R2.1) 1), .int .u64 (wd (Pt.pX R2.1) 2), .int .u64 (wd (Pt.pX R2.1) 3), .int .u64 (wd (Pt.pY R2.1) 0), .int .u64 (wd (Pt.pY R2.1) 1), .int .u64 (wd (Pt.pY R2.1) 2), .int .u64 (wd (Pt.pY R2.1) 3), .bool (Pt.pFar R2.1)]
        generalize w5.setRow (w.heap.size + 1 + 1 + 1) #[.int .u64 (wd (Pt.pX R2.1) 0), .int .u64 (wd (Pt.pX R2.1) 1), .int .u64 (wd (Pt.pX R2.1) 2), .int .u64 (wd (Pt.pX R2.1) 3), .int .u64 (wd (Pt.pY R2.1) 0), .int .u64 (wd (Pt.pY R2.1) 1), .int .u64 (wd (Pt.pY R2.1) 2), .int .u64 (wd (Pt.pY R2.1) 3), .bool (Pt.pFar R2.1)] = w6 at *
        clear hO HO
        have hO := hO'
        clear hO'
        go_roundw
        case rel => exact ⟨m, by omega, by go_num, hK, hA, hR, by rw [times_step, if_pos HBIT.out, ← HR0.out, ← HR1.out, ← HR2.out]; exact hO, hB⟩
        case measure => simp [intOf]
      · have hbit : bit K m = false := by simpa using hbit
        rw [hbit] at hbc
        have HBIT := veil hbit
        clear hbit
        obtain ⟨k0, k1, k2, k3⟩ := row_c4 hK
        have HC := veil hbc
        clear hbc
        go_wp2_with fail
        refine (HC.out _).mono ?_
        rintro e w7 ⟨rfl, hb⟩
        clear k0 k1 k2 k3
        replace hK := row_below hK hb hK.lt
        replace hA := row_below hA hb hA.lt
        replace hR := row_below hR hb hR.lt
        replace hO := row_below hO hb hO.lt
        replace hB := hB.trans (hb.mono hB.size)
        clear hb
        go_wp2
        go_roundw
        case rel => exact ⟨m, by omega, by go_num, hK, hA, hR, by rw [times_step, HBIT.out, if_neg (by decide), ← HR0.out, ← HR1.out]; exact hO, hB⟩
        case measure => simp [intOf]
end Go.Proofs.Ytppfcdpokgnpfaa


/-
  clapperref05.Bytes: a point's bytes.
-/
namespace Go.Proofs.Ytppfcdpokgnpfaa
open Go.RowKit

/-- Byte j of a point. -/
def ptB (X Y j : Nat) : Value := if j < 32 then bsv X j else bsv Y (j - 32)
set_option maxRecDepth 100000 in
theorem from_own {w : World} {base e n g c : Nat} {f : Nat → Value} (o : Own w base e (.slice (some ⟨g, 0, none⟩) n c) n f) : From w (some ⟨g, 0, none⟩) n f := by
  by_cases h : n = 0
  · exact .inl h
  · obtain ⟨g', c', e, _, _, hp⟩ := o.pre (by omega)
    injection e with e1 _ _
    injection e1 with e2
    injection e2 with e3
    subst e3
    exact .inr ⟨_, rfl, fun j hj => by rw [Addr.add_mid, Nat.zero_add]; exact hp.cell hj⟩
set_option maxRecDepth 100000 in
set_option maxHeartbeats 4000000 in
theorem rptb_calls (X Y : Nat) (f : Bool) (w : World) :
    Calls Try.prog 25 #[.agg #[.int .u64 (wd (X) 0), .int .u64 (wd (X) 1), .int .u64 (wd (X) 2), .int .u64 (wd (X) 3), .int .u64 (wd (Y) 0), .int .u64 (wd (Y) 1), .int .u64 (wd (Y) 2), .int .u64 (wd (Y) 3), .bool (f)]] w fun e w' => ∃ g cap, e = .returned (.slice (some ⟨g, 0, none⟩) 64 cap) ∧ w.heap.size ≤ g ∧ Own w' w.heap.size 5 (.slice (some ⟨g, 0, none⟩) 64 cap) 64 (ptB X Y) ∧ Below w.heap.size w w' := by
  obtain ⟨i8, hi8, hz0, hz1, hz2⟩ := info_parts infoByte
  have HI := veil (And.intro hi8 (And.intro hz0 (And.intro hz1 hz2)))
  clear hi8 hz0 hz1 hz2
  have hA := pt_new (w := w) (b := w.heap.size) X Y f (t := 26) rfl
  have hB : Below w.heap.size w (w.alloc (.cells #[.int .u64 (wd (X) 0), .int .u64 (wd (X) 1), .int .u64 (wd (X) 2), .int .u64 (wd (X) 3), .int .u64 (wd (Y) 0), .int .u64 (wd (Y) 1), .int .u64 (wd (Y) 2), .int .u64 (wd (Y) 3), .bool (f)] 26)) := (Below.refl _ _).alloc (Nat.le_refl _) _
  go_enter Try.func25, Try.ntmps25
  go_upto_region 1 with (fail)
  generalize w.alloc (.cells #[.int .u64 (wd (X) 0), .int .u64 (wd (X) 1), .int .u64 (wd (X) 2), .int .u64 (wd (X) 3), .int .u64 (wd (Y) 0), .int .u64 (wd (Y) 1), .int .u64 (wd (Y) 2), .int .u64 (wd (Y) 3), .bool (f)] 26) = wz at *
  obtain ⟨x0, x1, x2, x3⟩ := pt_x hA
  obtain ⟨y0, y1, y2, y3⟩ := pt_y hA
  have lz := hA.lt
  have H1 := veil (fun W => rbytes_own X W)
  have H2 := veil (fun W => rbytes_own Y W)
  clear hA
  go_region_held3 (fun w' => (∀ b o, b < wz.heap.size → w'.cell? ⟨b, o, none⟩ = wz.cell? ⟨b, o, none⟩) ∧ Below wz.heap.size wz w')
    (first
      | with_reducible assumption
      | with_reducible exact keep_drew _
      | exact hS3
      | with_reducible exact keep_old (by assumption) (by assumption)
      | fail)
    (first
      | (go_at_call 47; first
          | ((with_reducible refine (H1.out _).mono ?_); rintro e w1 ⟨g1, c1, rfl, hc1, hg1, ho1, hb1⟩)
          | ((with_reducible refine (H2.out _).mono ?_); rintro e w2 ⟨g2, c2, rfl, hc2, hg2, ho2, hb2⟩))
      | ((with_reducible refine at_slotR 9 ?_); refine step_append_from _ rfl _ _ 43 rfl wz.heap.size 5 i8 (.int .u8 0) 1 Try.underlying43 HI.out.1 HI.out.2.1 HI.out.2.2.1 HI.out.2.2.2 rfl (.slice (some ⟨g1, 0, none⟩) 32 c1) 32 _ rfl (ho1.below hb2 (Nat.le_refl _)) (some ⟨g2, 0, none⟩) 32 c2 rfl _ (from_own ho2) (fun _ => rfl) (by unfold maxLen; omega) (by omega) (Nat.le_trans hb1.size hb2.size) ?_; intro v3 w3 hO3 hg3 _ _; have hX := keep_old hb2 (keep_old hb1 (keep_drew wz)); have hb3 : Below wz.heap.size wz w3 := hX.2.grown hg3 hX.2.size (fun k e => (ho1.lt e).1); have hS3 := And.intro (fun b o (h : b < wz.heap.size) => hb3.cell (p := ⟨b, o, none⟩) h) hb3; obtain ⟨g3, c3, rfl, -, hg3', -⟩ := hO3.pre (by omega)))
  rename (_ ∧ Below wz.heap.size wz _) => hH
  have hfin : Own w3 w.heap.size 5 (.slice (some ⟨g3, 0, none⟩) 64 c3) 64 (ptB X Y) := hO3.base_le hB.size
  clear x0 x1 x2 x3 y0 y1 y2 y3 hO3
  go_wp2
  go_ret
  exact ⟨g3, c3, rfl, Nat.le_trans hB.size hg3', hfin, hB.trans (hH.2.mono hB.size)⟩
end Go.Proofs.Ytppfcdpokgnpfaa


/-
  clapperref05.Base: the base.
-/
namespace Go.Proofs.Ytppfcdpokgnpfaa
open Go.RowKit

set_option maxRecDepth 100000 in
set_option maxHeartbeats 4000000 in
theorem rbase_calls (w : World) : Calls Try.prog 19 #[] w fun e w' => e = .returned (.agg #[.int .u64 (wd (Pt.gx) 0), .int .u64 (wd (Pt.gx) 1), .int .u64 (wd (Pt.gx) 2), .int .u64 (wd (Pt.gx) 3), .int .u64 (wd (Pt.gy) 0), .int .u64 (wd (Pt.gy) 1), .int .u64 (wd (Pt.gy) 2), .int .u64 (wd (Pt.gy) 3), .bool (false)]) ∧ Below w.heap.size w w' := by
  obtain ⟨l0, l1, l2, l3⟩ := gx_lits
  obtain ⟨m0, m1, m2, m3⟩ := gy_lits
  rw [l0, l1, l2, l3, m0, m1, m2, m3]
  clear l0 l1 l2 l3 m0 m1 m2 m3
  have hR : (((w.alloc (.cells #[.int .u64 0, .int .u64 0, .int .u64 0, .int .u64 0, .int .u64 0, .int .u64 0, .int .u64 0, .int .u64 0, .bool false] 26)).alloc (.cells #[.int .u64 17627433388654248598, .int .u64 8575836109218198432, .int .u64 17923454489921339634, .int .u64 7716867327612699207] 24)).alloc (.cells #[.int .u64 14678990851816772085, .int .u64 3156516839386865358, .int .u64 10297457778147434006, .int .u64 5756518291402817435] 24)).rowIs w.heap.size 26 9 (pc 0 0 false) := ((zero_row rfl).alloc _).alloc _
  have hB : Below w.heap.size w (((w.alloc (.cells #[.int .u64 0, .int .u64 0, .int .u64 0, .int .u64 0, .int .u64 0, .int .u64 0, .int .u64 0, .int .u64 0, .bool false] 26)).alloc (.cells #[.int .u64 17627433388654248598, .int .u64 8575836109218198432, .int .u64 17923454489921339634, .int .u64 7716867327612699207] 24)).alloc (.cells #[.int .u64 14678990851816772085, .int .u64 3156516839386865358, .int .u64 10297457778147434006, .int .u64 5756518291402817435] 24)) := (((Below.refl _ _).alloc (by simp) _).alloc (by simp) _).alloc (by simp; omega) _
  have HR := veil (blkOf hR)
  clear hR
  go_enter Try.func19, Try.ntmps19
  go_wp2_with ((with_reducible refine at_none ?_); refine wpList_store_row rfl 26 _ _ rfl w.heap.size #[.int .u64 17627433388654248598, .int .u64 8575836109218198432, .int .u64 17923454489921339634, .int .u64 7716867327612699207, .int .u64 14678990851816772085, .int .u64 3156516839386865358, .int .u64 10297457778147434006, .int .u64 5756518291402817435, .bool false] rfl rfl 26 _ HR.out info_pt (by rw [arrOf_size]; rfl) (by simp [Value.oneCell']) ?_)
  exact bodyPost_ret (results_cell_row rfl _ _ w.heap.size 26 #[.int .u64 17627433388654248598, .int .u64 8575836109218198432, .int .u64 17923454489921339634, .int .u64 7716867327612699207, .int .u64 14678990851816772085, .int .u64 3156516839386865358, .int .u64 10297457778147434006, .int .u64 5756518291402817435, .bool false] (0, 0) _ rfl (setRow_heap _ w.heap.size _ #[.int .u64 17627433388654248598, .int .u64 8575836109218198432, .int .u64 17923454489921339634, .int .u64 7716867327612699207, .int .u64 14678990851816772085, .int .u64 3156516839386865358, .int .u64 10297457778147434006, .int .u64 5756518291402817435, .bool false] 26 (0, 0) HR.out) Try.underlying26 rfl info_pt) rfl ⟨rfl, below_setRow hB (Nat.le_refl _) _⟩
end Go.Proofs.Ytppfcdpokgnpfaa


/-
  clapperref05.Parse: the point of bytes, or that they are none's.
-/
namespace Go.Proofs.Ytppfcdpokgnpfaa
open Go.RowKit

set_option maxRecDepth 100000 in
theorem keep_setRow {wz W : World} {g : Nat} {cs : Array Value} (hg : wz.heap.size ≤ g) (h : (∀ b o, b < wz.heap.size → W.cell? ⟨b, o, none⟩ = wz.cell? ⟨b, o, none⟩) ∧ Below wz.heap.size wz W) :
    (∀ b o, b < wz.heap.size → (W.setRow g cs).cell? ⟨b, o, none⟩ = wz.cell? ⟨b, o, none⟩) ∧ Below wz.heap.size wz (W.setRow g cs) :=
  ⟨fun b o hb => (World.cell?_of_block (a := ⟨b, o, none⟩) (setRow_far W cs (show b ≠ g by omega))).trans (h.1 b o hb), below_setRow h.2 hg cs⟩
/-- The number of 32 bytes, from y k on. -/
def be32 (y : Nat → Nat) (k : Nat) : Nat := lev (fun i => y (k + (31 - i))) 32
set_option maxRecDepth 100000 in
theorem be32_lt {y : Nat → Nat} (hy : ∀ j, y j < 256) (k : Nat) : be32 y k < top := by
  have h := lev_lt (z := fun i => y (k + (31 - i))) (fun i => hy _) 32
  have e : (256 : Nat) ^ 32 = top := by decide +kernel
  rw [← e]
  exact h
set_option maxRecDepth 100000 in
/-- A struct in a cell's block, and a second result. -/
theorem results_pt_tmp {P : Program} {fn : Func} {p s : Tmp} {ty : TypeId} (h : fn.results = #[.cell p ty, .tmp s]) (tmps : Array Value) (w : World) (g : Nat) (t : TypeId) (cs : Array Value) (fr : Nat × Nat) (d : TypeDesc)
    (hp : tmps.getD p undef = .pointer (some ⟨g, 0, none⟩)) (hg : w.heap[g]? = some (.cells cs t fr))
    (hu : P.underlying ty = some d) (hd : (match d with | .struct _ | .array _ _ => true | _ => false) = true) (hi : (P.info? ty).map (·.size) = some cs.size) :
    (results fn tmps).run P w = .ok (.tuple #[.agg cs, tmps.getD s undef]) w := by
  have hp' : tmps[p]?.getD undef = .pointer (some ⟨g, 0, none⟩) := by simpa using hp
  simp [results, h, hp', asAddr, run_loadVar_row w g t ty cs fr d hg hu hd hi]
set_option maxRecDepth 100000 in
set_option maxHeartbeats 8000000 in
theorem rparse_64 (b o c : Nat) (y : Nat → Nat) (hy : ∀ j, y j < 256) (hc : 64 ≤ c) (w : World) (hlt : b < w.heap.size) (hcell : ∀ j, j < 64 → w.cell? ⟨b, o + j, none⟩ = some (.int .u8 (y j : Nat))) :
    Calls Try.prog 27 #[.slice (some ⟨b, o, none⟩) 64 c] w fun e w' => e = .returned (.tuple #[if onB (be32 y 0) (be32 y 32) false = true then .agg #[.int .u64 (wd (be32 y 0) 0), .int .u64 (wd (be32 y 0) 1), .int .u64 (wd (be32 y 0) 2), .int .u64 (wd (be32 y 0) 3), .int .u64 (wd (be32 y 32) 0), .int .u64 (wd (be32 y 32) 1), .int .u64 (wd (be32 y 32) 2), .int .u64 (wd (be32 y 32) 3), .bool (false)] else .agg #[.int .u64 0, .int .u64 0, .int .u64 0, .int .u64 0, .int .u64 0, .int .u64 0, .int .u64 0, .int .u64 0, .bool false], .bool (onB (be32 y 0) (be32 y 32) false)]) ∧ Below w.heap.size w w' := by
  have lX := be32_lt hy 0
  have lY := be32_lt hy 32
  have eX : lev (fun k => y (32 - 1 - k)) 32 = be32 y 0 := by unfold be32; simp only [Nat.zero_add]
  have eY : lev (fun k => y (32 + (32 - 1 - k))) 32 = be32 y 32 := rfl
  obtain ⟨X, hX⟩ : ∃ X, X = be32 y 0 := ⟨_, rfl⟩
  obtain ⟨Y, hY⟩ : ∃ Y, Y = be32 y 32 := ⟨_, rfl⟩
  rw [← hX] at lX eX ⊢
  rw [← hY] at lY eY ⊢
  clear hX hY
  obtain ⟨q, hq⟩ : ∃ q, q = onB X Y false := ⟨_, rfl⟩
  rw [← hq]
  have HQ := veil hq
  clear hq
  have q1 : ∀ W, (Instr.sliceAt 43 (.slice (some ⟨b, o, none⟩) 64 c) none (some (.int .i64 32)) none).run Try.prog W = .ok (.slice (some ⟨b, o, none⟩) 32 c) W := fun W => by
    have h := cut_to (some ⟨b, o, none⟩) 64 c 32 (by omega) W
    unfold cutA at h
    rw [if_neg (by omega)] at h
    simpa [Addr.add_mid] using h
  have q2 : ∀ W, (Instr.sliceAt 43 (.slice (some ⟨b, o, none⟩) 64 c) (some (.int .i64 32)) none none).run Try.prog W = .ok (.slice (some ⟨b, o + 32, none⟩) 32 (c - 32)) W := fun W => by
    have h := cut_from (some ⟨b, o, none⟩) 64 c 32 (by omega) W
    unfold cutA at h
    rw [if_neg (by omega)] at h
    simpa [Addr.add_mid] using h
  have hR0 : (w.alloc (.cells #[.int .u64 0, .int .u64 0, .int .u64 0, .int .u64 0, .int .u64 0, .int .u64 0, .int .u64 0, .int .u64 0, .bool false] 26)).rowIs w.heap.size 26 9 (pc 0 0 false) := zero_row rfl
  have hB : Below w.heap.size w (w.alloc (.cells #[.int .u64 0, .int .u64 0, .int .u64 0, .int .u64 0, .int .u64 0, .int .u64 0, .int .u64 0, .int .u64 0, .bool false] 26)) := (Below.refl _ _).alloc (Nat.le_refl _) _
  have hcz : ∀ j, j < 64 → (w.alloc (.cells #[.int .u64 0, .int .u64 0, .int .u64 0, .int .u64 0, .int .u64 0, .int .u64 0, .int .u64 0, .int .u64 0, .bool false] 26)).cell? ⟨b, o + j, none⟩ = some (.int .u8 (y j : Nat)) := fun j hj => (hB.cell (p := ⟨b, o + j, none⟩) hlt).trans (hcell j hj)
  have hbz : b < (w.alloc (.cells #[.int .u64 0, .int .u64 0, .int .u64 0, .int .u64 0, .int .u64 0, .int .u64 0, .int .u64 0, .int .u64 0, .bool false] 26)).heap.size := by simp; omega
  clear hcell
  go_enter Try.func27, Try.ntmps27
  go_upto_region 3 with (fail)
  generalize w.alloc (.cells #[.int .u64 0, .int .u64 0, .int .u64 0, .int .u64 0, .int .u64 0, .int .u64 0, .int .u64 0, .int .u64 0, .bool false] 26) = wz at *
  have H1 := veil (show ∀ W, ((∀ b o, b < wz.heap.size → W.cell? ⟨b, o, none⟩ = wz.cell? ⟨b, o, none⟩) ∧ Below wz.heap.size wz W) → Calls Try.prog 49 #[.slice (some ⟨b, o, none⟩) 32 c] W fun e W' => e = .returned (.agg #[.int .u64 (wd (X) 0), .int .u64 (wd (X) 1), .int .u64 (wd (X) 2), .int .u64 (wd (X) 3)]) ∧ Below W.heap.size W W' from fun W h => by
    rw [← eX]
    exact rof_some b o 32 c y hy (by omega) W (Nat.lt_of_lt_of_le hbz h.2.size) fun j hj => (h.1 b (o + j) hbz).trans (hcz j (by omega)))
  have H2 := veil (show ∀ W, ((∀ b o, b < wz.heap.size → W.cell? ⟨b, o, none⟩ = wz.cell? ⟨b, o, none⟩) ∧ Below wz.heap.size wz W) → Calls Try.prog 49 #[.slice (some ⟨b, o + 32, none⟩) 32 (c - 32)] W fun e W' => e = .returned (.agg #[.int .u64 (wd (Y) 0), .int .u64 (wd (Y) 1), .int .u64 (wd (Y) 2), .int .u64 (wd (Y) 3)]) ∧ Below W.heap.size W W' from fun W h => by
    rw [← eY]
    exact rof_some b (o + 32) 32 (c - 32) (fun j => y (32 + j)) (fun j => hy _) (by omega) W (Nat.lt_of_lt_of_le hbz h.2.size) fun j hj => by
      rw [Nat.add_assoc]
      exact (h.1 b (o + (32 + j)) hbz).trans (hcz (32 + j) (by omega)))
  have HL := veil (And.intro lX lY)
  clear lX lY eX eY hy
  go_cut [4] from 10 to 16 (fun v4 wx => ∃ g, v4 = .pointer (some ⟨g, 0, none⟩) ∧ wz.heap.size ≤ g ∧ wx.rowIs g 26 9 (pc X Y false) ∧ Below wz.heap.size wz wx)
  case first =>
    refine wp_region_held_drew (S := fun w' => (∀ b o, b < wz.heap.size → w'.cell? ⟨b, o, none⟩ = wz.cell? ⟨b, o, none⟩) ∧ Below wz.heap.size wz w') (by kernel_rfl) (keep_drew _) (fun hH => ?_)
    repeat'
      ((first
          | (refine wpAnyH_take (i := 0) (v := .slice (some ⟨b, o, none⟩) 64 c) rfl (by kernel_rfl) (by kernel_rfl) (by decide +kernel) (fun _ _ _ h => h) (Or.inl ⟨by rfl, fun W hSw => (by dsimp only at hSw; go_simp)⟩) (by with_reducible assumption) ?_)
          | (refine wpAnyH_take (i := 1) (v := .slice (some ⟨b, o, none⟩) 32 c) rfl (by kernel_rfl) (by kernel_rfl) (by decide +kernel) (fun _ _ _ h => h) (Or.inl ⟨by rfl, fun W hSw => (by dsimp only at hSw; go_simp)⟩) (by with_reducible assumption) ?_)
          | (refine wpAnyH_take (i := 3) (v := .slice (some ⟨b, o, none⟩) 64 c) rfl (by kernel_rfl) (by kernel_rfl) (by decide +kernel) (fun _ _ _ h => h) (Or.inl ⟨by rfl, fun W hSw => (by dsimp only at hSw; go_simp)⟩) (by with_reducible assumption) ?_)
          | (refine wpAnyH_take (i := 4) (v := .slice (some ⟨b, o + 32, none⟩) 32 (c - 32)) rfl (by kernel_rfl) (by kernel_rfl) (by decide +kernel) (fun _ _ _ h => h) (Or.inl ⟨by rfl, fun W hSw => (by dsimp only at hSw; go_simp)⟩) (by with_reducible assumption) ?_)
          | (refine wpAnyH_ready (rs := [2, 7]) (by decide +kernel) (by simp) ?_; refine AllReadyH.cons rfl (fun K hK => ?_) ?_; go_simp; (with_reducible refine (H1.out _ hH).mono ?_); rintro e v1 ⟨rfl, hb⟩; (try have hz := row_below hz hb hz.lt); refine hK.out _ _ (keep_old hb hH) (fun hH => ?_); clear hb hK K; rotate_left; refine AllReadyH.cons rfl (fun K hK => ?_) AllReadyH.nil; go_simp; have hz := zero_row (w := wz.drew) (t := 26) rfl; have hle := hH.2.size; refine hK.out _ _ (keep_alloc _ hH) (fun hH => ?_); clear hK K)
          | (refine wpAnyH_ready (rs := [2]) (by decide +kernel) (by simp) ?_; refine AllReadyH.cons rfl (fun K hK => ?_) AllReadyH.nil; go_simp; (with_reducible refine (H1.out _ hH).mono ?_); rintro e v1 ⟨rfl, hb⟩; (try have hz := row_below hz hb hz.lt); refine hK.out _ _ (keep_old hb hH) (fun hH => ?_); clear hb hK K)
          | (refine wpAnyH_ready (rs := [5, 7]) (by decide +kernel) (by simp) ?_; refine AllReadyH.cons rfl (fun K hK => ?_) ?_; go_simp; (with_reducible refine (H2.out _ hH).mono ?_); rintro e v2 ⟨rfl, hb⟩; (try have hz := row_below hz hb hz.lt); refine hK.out _ _ (keep_old hb hH) (fun hH => ?_); clear hb hK K; rotate_left; refine AllReadyH.cons rfl (fun K hK => ?_) AllReadyH.nil; go_simp; have hz := zero_row (w := v1) (t := 26) rfl; have hle := hH.2.size; refine hK.out _ _ (keep_alloc _ hH) (fun hH => ?_); clear hK K)
          | (refine wpAnyH_ready (rs := [5]) (by decide +kernel) (by simp) ?_; refine AllReadyH.cons rfl (fun K hK => ?_) AllReadyH.nil; go_simp; (with_reducible refine (H2.out _ hH).mono ?_); rintro e v2 ⟨rfl, hb⟩; (try have hz := row_below hz hb hz.lt); refine hK.out _ _ (keep_old hb hH) (fun hH => ?_); clear hb hK K)
          | (refine wpAnyH_take (i := 6) (v := .agg #[.int .u64 (wd (X) 0), .int .u64 (wd (X) 1), .int .u64 (wd (X) 2), .int .u64 (wd (X) 3), .int .u64 (wd (Y) 0), .int .u64 (wd (Y) 1), .int .u64 (wd (Y) 2), .int .u64 (wd (Y) 3), .bool (false)]) rfl (by kernel_rfl) (by kernel_rfl) (by decide +kernel) (fun _ _ _ h => h) (Or.inl ⟨by rfl, fun W hSw => (by dsimp only at hSw; go_simp)⟩) (by with_reducible assumption) ?_)
          | (refine wpAnyH_ready (rs := [7]) (by decide +kernel) (by simp) ?_; refine AllReadyH.cons rfl (fun K hK => ?_) AllReadyH.nil; go_simp; have hz := zero_row (w := v2) (t := 26) rfl; have hle := hH.2.size; refine hK.out _ _ (keep_alloc _ hH) (fun hH => ?_); clear hK K)
          | (refine wpAnyH_ready (rs := [8]) (by decide +kernel) (by simp) ?_; refine AllReadyH.cons rfl (fun K hK => ?_) AllReadyH.nil; refine step_store_row rfl 26 _ _ rfl _ #[.int .u64 (wd (X) 0), .int .u64 (wd (X) 1), .int .u64 (wd (X) 2), .int .u64 (wd (X) 3), .int .u64 (wd (Y) 0), .int .u64 (wd (Y) 1), .int .u64 (wd (Y) 2), .int .u64 (wd (Y) 3), .bool (false)] rfl rfl 26 _ (blkOf hz) info_pt (by rw [arrOf_size]; rfl) (one9 X Y false) ?_; have hrow := row_setRow hz (a := #[.int .u64 (wd (X) 0), .int .u64 (wd (X) 1), .int .u64 (wd (X) 2), .int .u64 (wd (X) 3), .int .u64 (wd (Y) 0), .int .u64 (wd (Y) 1), .int .u64 (wd (Y) 2), .int .u64 (wd (Y) 3), .bool (false)]) rfl (arr9 X Y false); refine hK.out _ _ (keep_setRow hle hH) (fun hH => ?_); clear hK K)
          | fail);
        try simp only [Act.put, List.setIfInBounds_toArray, List.set_cons_zero, List.set_cons_succ, List.getElem_toArray, List.getElem_cons_zero, List.getElem_cons_succ])
    all_goals
      refine wpAnyH_done (by decide +kernel) ?_ _
      go_wp2
      go_meet
      exact ⟨_, rfl, hle, hrow, hH.2⟩
  case rest =>
    obtain ⟨g, rfl, hg, hT, hb⟩ := hcut
    have HT := veil (blk9 hT)
    have lT := hT.lt
    have HON := ron_calls X Y false HL.out.1 HL.out.2
    have hR5 := row_below hR0 hb hR0.lt
    have hB5 := hB.trans (hb.mono hB.size)
    have hgR : w.heap.size < g := Nat.lt_of_lt_of_le hR0.lt hg
    clear hb hR0 hB hT
    rw [← HQ.out] at HON
    clear HQ
    replace HON := veil HON
    cases q with
    | true =>
      go_wp2_with ((with_reducible refine at_slot 17 ?_); refine wpList_load_row rfl 26 _ rfl g rfl 26 #[.int .u64 (wd (X) 0), .int .u64 (wd (X) 1), .int .u64 (wd (X) 2), .int .u64 (wd (X) 3), .int .u64 (wd (Y) 0), .int .u64 (wd (Y) 1), .int .u64 (wd (Y) 2), .int .u64 (wd (Y) 3), .bool (false)] (0, 0) _ HT.out Try.underlying26 rfl info_pt ?_)
      refine (HON.out _).mono ?_
      rintro e w6 ⟨rfl, hb⟩
      have hR6 := row_below hR5 hb hR5.lt
      have HT6 := veil ((hb.block g lT).trans HT.out)
      have hB6 := hB5.trans (hb.mono hB5.size)
      have HR := veil (blkOf hR6)
      clear hb hR5 hB5 HT hR6 HON
      go_wp2_with (first
        | ((with_reducible refine at_slot 22 ?_); refine wpList_load_row rfl 26 _ rfl g rfl 26 #[.int .u64 (wd (X) 0), .int .u64 (wd (X) 1), .int .u64 (wd (X) 2), .int .u64 (wd (X) 3), .int .u64 (wd (Y) 0), .int .u64 (wd (Y) 1), .int .u64 (wd (Y) 2), .int .u64 (wd (Y) 3), .bool (false)] (0, 0) _ HT6.out Try.underlying26 rfl info_pt ?_)
        | ((with_reducible refine at_none ?_); refine wpList_store_row rfl 26 _ _ rfl w.heap.size #[.int .u64 (wd (X) 0), .int .u64 (wd (X) 1), .int .u64 (wd (X) 2), .int .u64 (wd (X) 3), .int .u64 (wd (Y) 0), .int .u64 (wd (Y) 1), .int .u64 (wd (Y) 2), .int .u64 (wd (Y) 3), .bool (false)] rfl rfl 26 _ HR.out info_pt (by rw [arrOf_size]; rfl) (one9 _ _ _) ?_))
      exact bodyPost_ret (results_pt_tmp rfl _ _ w.heap.size 26 #[.int .u64 (wd (X) 0), .int .u64 (wd (X) 1), .int .u64 (wd (X) 2), .int .u64 (wd (X) 3), .int .u64 (wd (Y) 0), .int .u64 (wd (Y) 1), .int .u64 (wd (Y) 2), .int .u64 (wd (Y) 3), .bool (false)] (0, 0) _ rfl (setRow_heap w6 w.heap.size _ #[.int .u64 (wd (X) 0), .int .u64 (wd (X) 1), .int .u64 (wd (X) 2), .int .u64 (wd (X) 3), .int .u64 (wd (Y) 0), .int .u64 (wd (Y) 1), .int .u64 (wd (Y) 2), .int .u64 (wd (Y) 3), .bool (false)] 26 (0, 0) HR.out) Try.underlying26 rfl info_pt) rfl ⟨rfl, below_setRow hB6 (Nat.le_refl _) _⟩
    | false =>
      go_wp2_with ((with_reducible refine at_slot 17 ?_); refine wpList_load_row rfl 26 _ rfl g rfl 26 #[.int .u64 (wd (X) 0), .int .u64 (wd (X) 1), .int .u64 (wd (X) 2), .int .u64 (wd (X) 3), .int .u64 (wd (Y) 0), .int .u64 (wd (Y) 1), .int .u64 (wd (Y) 2), .int .u64 (wd (Y) 3), .bool (false)] (0, 0) _ HT.out Try.underlying26 rfl info_pt ?_)
      refine (HON.out _).mono ?_
      rintro e w6 ⟨rfl, hb⟩
      have hR6 := row_below hR5 hb hR5.lt
      have hB6 := hB5.trans (hb.mono hB5.size)
      have HR := veil (blkOf hR6)
      clear hb hR5 hB5 HT hR6 HON
      go_wp2_with ((with_reducible refine at_none ?_); refine wpList_store_row rfl 26 _ _ rfl w.heap.size #[.int .u64 0, .int .u64 0, .int .u64 0, .int .u64 0, .int .u64 0, .int .u64 0, .int .u64 0, .int .u64 0, .bool false] rfl rfl 26 _ HR.out info_pt (by rw [arrOf_size]; rfl) (by simp [Value.oneCell']) ?_)
      exact bodyPost_ret (results_pt_tmp rfl _ _ w.heap.size 26 #[.int .u64 0, .int .u64 0, .int .u64 0, .int .u64 0, .int .u64 0, .int .u64 0, .int .u64 0, .int .u64 0, .bool false] (0, 0) _ rfl (setRow_heap w6 w.heap.size _ #[.int .u64 0, .int .u64 0, .int .u64 0, .int .u64 0, .int .u64 0, .int .u64 0, .int .u64 0, .int .u64 0, .bool false] 26 (0, 0) HR.out) Try.underlying26 rfl info_pt) rfl ⟨rfl, below_setRow hB6 (Nat.le_refl _) _⟩
set_option maxRecDepth 100000 in
set_option maxHeartbeats 4000000 in
theorem rparse_no (A : Option Addr) (n c : Nat) (hn : n ≠ 64) (w : World) :
    Calls Try.prog 27 #[.slice A n c] w fun e w' => e = .returned (.tuple #[.agg #[.int .u64 0, .int .u64 0, .int .u64 0, .int .u64 0, .int .u64 0, .int .u64 0, .int .u64 0, .int .u64 0, .bool false], .bool false]) ∧ Below w.heap.size w w' := by
  have hne : ¬ ((n : Int) = 64) := by omega
  have hR0 : (w.alloc (.cells #[.int .u64 0, .int .u64 0, .int .u64 0, .int .u64 0, .int .u64 0, .int .u64 0, .int .u64 0, .int .u64 0, .bool false] 26)).rowIs w.heap.size 26 9 (pc 0 0 false) := zero_row rfl
  have hB : Below w.heap.size w (w.alloc (.cells #[.int .u64 0, .int .u64 0, .int .u64 0, .int .u64 0, .int .u64 0, .int .u64 0, .int .u64 0, .int .u64 0, .bool false] 26)) := (Below.refl _ _).alloc (Nat.le_refl _) _
  go_enter Try.func27, Try.ntmps27
  go_upto_region 1 with (fail)
  generalize w.alloc (.cells #[.int .u64 0, .int .u64 0, .int .u64 0, .int .u64 0, .int .u64 0, .int .u64 0, .int .u64 0, .int .u64 0, .bool false] 26) = wz at *
  have HR := veil (blkOf hR0)
  clear hR0
  go_wp2_with ((with_reducible refine at_none ?_); refine wpList_store_row rfl 26 _ _ rfl w.heap.size #[.int .u64 0, .int .u64 0, .int .u64 0, .int .u64 0, .int .u64 0, .int .u64 0, .int .u64 0, .int .u64 0, .bool false] rfl rfl 26 _ HR.out info_pt (by rw [arrOf_size]; rfl) (by simp [Value.oneCell']) ?_)
  exact bodyPost_ret (results_pt_tmp rfl _ _ w.heap.size 26 #[.int .u64 0, .int .u64 0, .int .u64 0, .int .u64 0, .int .u64 0, .int .u64 0, .int .u64 0, .int .u64 0, .bool false] (0, 0) _ rfl (setRow_heap wz w.heap.size _ #[.int .u64 0, .int .u64 0, .int .u64 0, .int .u64 0, .int .u64 0, .int .u64 0, .int .u64 0, .int .u64 0, .bool false] 26 (0, 0) HR.out) Try.underlying26 rfl info_pt) rfl ⟨rfl, below_setRow hB (Nat.le_refl _) _⟩
end Go.Proofs.Ytppfcdpokgnpfaa


/-
  Regions that draw their order and whose calls may make memory: one walk in the text's order serves every order, if each operation yields one value in whatever world that still has all that was there.
-/
namespace Go.Proofs.Ytppfcdpokgnpfaa
open Go.RowKit

/-- All that there was is as it was. -/
def Ext (w w' : World) : Prop := Below w.heap.size w w'
theorem Ext.refl (w : World) : Ext w w := Below.refl _ _
theorem Ext.trans {a b c : World} (h : Ext a b) (k : Ext b c) : Ext a c := Below.trans h (Below.mono k h.size)
theorem Ext.drew (w : World) : Ext w w.drew := Below.drew (Below.refl _ _)
theorem Ext.alloc (w : World) (o : Obj) : Ext w (w.alloc o) := (Below.refl _ _).alloc (Nat.le_refl _) o
theorem Ext.block {a b : World} (h : Ext a b) {g : Nat} {o : Obj} (hg : a.heap[g]? = some o) : b.heap[g]? = some o := by
  rw [Below.block h g (Array.getElem?_eq_some_iff.1 hg).1, hg]
theorem Ext.row {a b : World} {g t n : Nat} {f : Nat → Value} (h : a.rowIs g t n f) (k : Ext a b) : b.rowIs g t n f := row_below h k h.lt

section
variable {P : Program} {ops : Array Oper} {Q : Exit → Act → World → Prop} {md : Region.Mode}

/-- What is asked of an operation carried out in the world w. -/
def madeUpon (P : Program) (w : World) (v : Value) : Result Next → Prop
  | .ok (.value u) w' => u = v ∧ Ext w w'
  | .ok (.enter f args) w' => Calls P f args w' fun e w'' => e = .returned v ∧ Ext w w''
  | _ => False
/-- One value in whatever world that has all that w has. -/
def Made (P : Program) (o : Oper) (v : Value) (a : Act) (w : World) : Prop := ∀ W, Ext w W → madeUpon P W v ((execOp a.eval o).run P W)
theorem Made.ext {o : Oper} {v : Value} {a : Act} {w w' : World} (h : Made P o v a w) (k : Ext w w') : Made P o v a w' := fun W hW => h W (k.trans hW)
def YieldsE (P : Program) (ops : Array Oper) (o : Oper) (v : Value) (a : Act) (w : World) : Prop :=
  (Region.wanted o (yielded ops a.tmps) = true ∧ Made P o v a w) ∨ (Region.wanted o (yielded ops a.tmps) = false ∧ v = undef)
theorem YieldsE.of_same {o : Oper} {v : Value} {a a' : Act} {w w' : World} (hy : YieldsE P ops o v a w) (k : Ext w w') (he : execOp a'.eval o = execOp a.eval o)
    (hw : Region.wanted o (yielded ops a'.tmps) = Region.wanted o (yielded ops a.tmps)) : YieldsE P ops o v a' w' := by
  unfold YieldsE at *
  rw [hw]
  refine hy.imp (fun ⟨h1, h2⟩ => ⟨h1, ?_⟩) id
  unfold Made at *
  rw [he]
  exact Made.ext h2 k
theorem Made.wp {o : Oper} {v : Value} {a : Act} {w W : World} (h : Made P o v a w) (k : Ext w W) {K : Act → World → Prop} (hK : ∀ W', Ext W W' → K (a.put o.dst v) W') : o.wp P a W K Q := by
  have h1 := h W k
  unfold Oper.wp
  generalize (execOp a.eval o).run P W = r at *
  cases r with
  | ok n w' =>
    cases n <;> simp only [madeUpon] at h1 <;> simp only [Oper.upon]
    case value u => obtain ⟨rfl, e⟩ := h1; exact hK _ e
    case enter f args => exact h1.mono fun e w'' ⟨he, hw⟩ => by subst he; exact hK _ hw
  | halt x w' => simp only [madeUpon] at h1
theorem YieldsE.wpOp {i : Nat} {o : Oper} {v : Value} {a : Act} {w W : World} (hi : ops[i]? = some o) (hy : YieldsE P ops o v a w) (k : Ext w W)
    {K : Act → World → Prop} (h : ∀ W', Ext W W' → K (a.put o.dst v) W') : wpOp P ops Q i K a W := by
  unfold Go.wpOp
  simp only [hi]
  rcases hy with ⟨hw, hv⟩ | ⟨hw, rfl⟩
  · simp only [hw, if_true]; exact .inl (hv.wp k h)
  · simp only [hw, Bool.false_eq_true, if_false]; exact h W (Ext.refl W)

/-- Another operation, apart from it: it makes no difference which of both is carried out first. -/
theorem wpOp_putE {j : Nat} {oi oj : Oper} {v : Value} (hj : ops[j]? = some oj) (hap : oi.apart ops oj = true)
    (hsi : ∀ cs b, oi.op ≠ .select cs b) (hsj : ∀ cs b, oj.op ≠ .select cs b)
    (hQ : ∀ c a w, Q (.panic c) (a.put oi.dst v) w → Q (.panic c) a w) {K : Act → World → Prop} {a : Act} {w : World}
    (hK : ∀ a' w', K a' w' → Ext w w') (hy : YieldsE P ops oi v a w) (h : wpOp P ops Q j K (a.put oi.dst v) w) :
    wpOp P ops Q j (fun a' w' => YieldsE P ops oi v a' w' ∧ K (a'.put oi.dst v) w') a w := by
  obtain ⟨h1, h2, h3⟩ := Oper.apart_spec hap
  have keep : ∀ (a' : Act) (u : Value) (w' : World), YieldsE P ops oi v a' w → Ext w w' → YieldsE P ops oi v (a'.put oj.dst u) w' := fun a' u w' hy k =>
    hy.of_same k (execOp_put oi hsi a' oj.dst u h3) (wanted_put oi a' oj.dst u h3)
  have keepD : ∀ d, YieldsE P ops oi v { a with defers := d :: a.defers } w := fun d => hy.of_same (Ext.refl w) rfl rfl
  unfold wpOp at *
  simp only [hj] at *
  rw [wanted_put oj a oi.dst v h1] at h
  split
  · rename_i hw
    simp only [hw, if_true] at h
    rcases h with h | ⟨hasks, hlets⟩
    case inr => exact .inr ⟨by unfold Oper.asks at *; rw [execOp_put oj hsj a oi.dst v h1] at hasks; exact hasks, hlets⟩
    refine .inl ?_
    unfold Oper.wp at *
    rw [execOp_put oj hsj a oi.dst v h1] at h
    generalize (execOp a.eval oj).run P w = r at *
    have fin : ∀ u w', K ((a.put oi.dst v).put oj.dst u) w' → YieldsE P ops oi v (a.put oj.dst u) w' ∧ K ((a.put oj.dst u).put oi.dst v) w' := fun u w' hk =>
      ⟨keep a u w' hy (hK _ _ hk), by rw [← Act.put_comm a v u h2]; exact hk⟩
    cases r with
    | ok n w' =>
      cases n <;> simp only [Oper.upon] at h ⊢
      case value u => exact fin u w' h
      case skip => exact fin undef w' h
      case defer d =>
        refine ⟨keep _ _ w' (keepD d) (hK _ _ h), ?_⟩
        rw [← Act.put_comm _ v undef h2, ← Act.put_defers]
        exact h
      case enter f args =>
        refine Calls.mono h fun e w'' he => ?_
        cases e with
        | returned u => exact fin u w'' he
        | panicked c => exact hQ _ _ _ he
        | outgrown => exact he
      case row row args => exact Rows.mono h fun u w'' he => fin u w'' he
    | halt x w' =>
      cases x <;> simp only [Oper.upon] at h ⊢
      case panic u => exact hQ _ _ _ h
  · rename_i hw
    simp only [hw] at h
    exact ⟨keep a undef w hy (Ext.refl w), by rw [← Act.put_comm a v undef h2]; exact h⟩

/-- Whatever order is picked from here on, in whatever world that has all that w has; operations below n keep all that there was. -/
def wpG (P : Program) (md : Region.Mode) (ops : Array Oper) (Q : Exit → Act → World → Prop) (n : Nat) : Nat → Array Bool → Act → World → Prop
  | 0, listed, a, w => Region.ready md ops listed = [] ∧ ∀ W, Ext w W → Q .normal a W
  | fuel + 1, listed, a, w =>
    (Region.ready md ops listed = [] → ∀ W, Ext w W → Q .normal a W) ∧
    ∀ i ∈ Region.ready md ops listed, ∀ W, Ext w W → wpOp P ops Q i (fun a' W' => (i < n → Ext W W') ∧ wpG P md ops Q n fuel (listed.setIfInBounds i true) a' W') a W
theorem wpG.ext {n : Nat} : ∀ {f : Nat} {listed : Array Bool} {a : Act} {w w' : World}, wpG P md ops Q n f listed a w → Ext w w' → wpG P md ops Q n f listed a w'
  | 0, _, _, _, _, h, k => ⟨h.1, fun W hW => h.2 W (k.trans hW)⟩
  | _ + 1, _, _, _, _, h, k => ⟨fun h0 W hW => h.1 h0 W (k.trans hW), fun i hi W hW => h.2 i hi W (k.trans hW)⟩
theorem wpAny_of_G {n : Nat} : ∀ (f : Nat) (listed : Array Bool) (a : Act) (w : World), wpG P md ops Q n f listed a w → wpAny P md ops Q f listed a w
  | 0, _, _, w, h => ⟨h.1, h.2 w (Ext.refl w)⟩
  | f + 1, _, _, w, h => ⟨fun h0 => h.1 h0 w (Ext.refl w), fun i hi => wpOp_mono (fun a' w' hk => wpAny_of_G f _ a' w' hk.2) (h.2 i hi w (Ext.refl w))⟩

/-- What has come up came up behind what it waits for. -/
def Closed (md : Region.Mode) (ops : Array Oper) (listed : Array Bool) : Prop :=
  listed.size = ops.size ∧ ∀ j oj, ops[j]? = some oj → listed.getD j false = true → ∀ e ∈ oj.after, Region.binds md e = true → listed.getD e.on false = true
theorem Closed.set {i : Nat} {listed : Array Bool} (inv : Closed md ops listed) (hi : i ∈ Region.ready md ops listed) : Closed md ops (listed.setIfInBounds i true) := by
  obtain ⟨_, oi, hoi, hall⟩ := mem_ready.1 hi
  refine ⟨by simp [inv.1], fun j oj hj hl e he hb => ?_⟩
  by_cases hij : i = j
  · subst hij
    have : oj = oi := Option.some.inj (hj.symm.trans hoi)
    subst this
    exact getD_set_true (hall e he hb)
  · rw [getD_set_ne false hij] at hl
    exact getD_set_true (inv.2 j oj hj hl e he hb)
/-- The first m operations are all waited for by the last of them, and that one by all from n on. -/
def lateB (md : Region.Mode) (ops : Array Oper) (m n : Nat) : Bool :=
  ((List.range (m - 1)).all fun i => (List.range m).any fun j => decide (i < j) && Region.waitsFor md ops j i) &&
  ((List.range ops.size).all fun t => decide (t < n) || Region.waitsFor md ops t (m - 1))
theorem late_one {m n : Nat} {listed : Array Bool} (hB : lateB md ops m n = true) (inv : Closed md ops listed) :
    ∀ (d i : Nat), m - 1 - i = d → i < m → listed.getD i false = false → listed.getD (m - 1) false = false := by
  intro d
  induction d using Nat.strongRecOn with
  | _ d ih =>
    intro i hd hi hun
    by_cases hl : i = m - 1
    · subst hl; exact hun
    · simp only [lateB, Bool.and_eq_true] at hB
      have h1 := List.all_eq_true.1 hB.1 i (List.mem_range.2 (by omega))
      obtain ⟨j, hj, hj2⟩ := List.any_eq_true.1 h1
      simp only [Bool.and_eq_true, decide_eq_true_eq] at hj2
      have hjm := List.mem_range.1 hj
      obtain ⟨oj, hoj, e, he, hb, hon⟩ := Region.waitsFor_spec hj2.2
      refine ih (m - 1 - j) (by omega) j rfl hjm ?_
      cases h2 : listed.getD j false with
      | false => rfl
      | true =>
        have h3 := inv.2 j oj hoj h2 e he hb
        rw [hon, hun] at h3
        cases h3
theorem late_spec {m n i : Nat} {listed : Array Bool} (hB : lateB md ops m n = true) (inv : Closed md ops listed) (hi : i < m) (hun : listed.getD i false = false)
    {t : Nat} (ht : t ∈ Region.ready md ops listed) : t < n := by
  have h0 := late_one hB inv _ i rfl hi hun
  simp only [lateB, Bool.and_eq_true] at hB
  obtain ⟨_, ot, hot, hall⟩ := mem_ready.1 ht
  have h1 := List.all_eq_true.1 hB.2 t (List.mem_range.2 (Array.getElem?_eq_some_iff.1 hot).1)
  simp only [Bool.or_eq_true, decide_eq_true_eq] at h1
  rcases h1 with h1 | h1
  · exact h1
  · obtain ⟨o', ho', e, he, hb, hon⟩ := Region.waitsFor_spec h1
    have : o' = ot := Option.some.inj (ho'.symm.trans hot)
    subst this
    have h2 := hall e he hb
    rw [hon, h0] at h2
    cases h2

/-- **What may come up, and yields one value, may be taken first.** -/
theorem G_first {i m n : Nat} {oi : Oper} {v : Value} (hi : ops[i]? = some oi) (hsel : ∀ (j : Nat) (o : Oper) cs b, ops[j]? = some o → o.op ≠ .select cs b)
    (hQ : ∀ c a w, Q (.panic c) (a.put oi.dst v) w → Q (.panic c) a w) (hB : lateB md ops m n = true) (him : i < m) :
    ∀ (fuel : Nat) (listed : Array Bool) (a : Act) (w : World), Closed md ops listed →
      (∀ j oj, ops[j]? = some oj → j ≠ i → listed.getD j true = false → (∀ e ∈ oj.after, Region.binds md e = true → e.on ≠ i) → oi.apart ops oj = true) →
      i ∈ Region.ready md ops listed → YieldsE P ops oi v a w →
      wpG P md ops Q n fuel (listed.setIfInBounds i true) (a.put oi.dst v) w → wpG P md ops Q n (fuel + 1) listed a w := by
  intro fuel
  induction fuel with
  | zero =>
    intro listed a w _ _ hr hy H
    refine ⟨fun h => (by rw [h] at hr; cases hr), fun j hj W hW => ?_⟩
    by_cases hji : j = i
    · subst hji; exact hy.wpOp hi hW fun W' hW' => ⟨fun _ => hW', H.ext (hW.trans hW')⟩
    · have := ready_mono hj hji
      rw [H.1] at this
      cases this
  | succ fuel ih =>
    intro listed a w inv hfree hr hy H
    refine ⟨fun h => (by rw [h] at hr; cases hr), fun j hj W hW => ?_⟩
    by_cases hji : j = i
    · subst hji; exact hy.wpOp hi hW fun W' hW' => ⟨fun _ => hW', H.ext (hW.trans hW')⟩
    · have hun := getD_both (mem_ready.1 hr).1
      have hjn : j < n := late_spec hB inv him hun hj
      have h1 := H.2 j (ready_mono hj hji) W hW
      obtain ⟨hjun, oj, hoj, hall⟩ := mem_ready.1 hj
      have hnot : ∀ e ∈ oj.after, Region.binds md e = true → e.on ≠ i := fun e he hb heq => by
        have h2 := hall e he hb
        rw [heq, hun] at h2
        cases h2
      have h2 := wpOp_putE hoj (hfree j oj hoj hji hjun hnot) (fun cs b => hsel i oi cs b hi) (fun cs b => hsel j oj cs b hoj) hQ (fun a' w' hk => hk.1 hjn)
        (hy.of_same hW rfl rfl) h1
      have hfree' : ∀ k ok, ops[k]? = some ok → k ≠ i → (listed.setIfInBounds j true).getD k true = false →
          (∀ e ∈ ok.after, Region.binds md e = true → e.on ≠ i) → oi.apart ops ok = true := fun k ok hk hki hunk hno => by
        refine hfree k ok hk hki ?_ hno
        by_cases hjk : j = k
        · subst hjk; exact hjun
        · rw [getD_set_ne true hjk] at hunk; exact hunk
      refine wpOp_mono (fun a' w' h3 => ⟨h3.2.1, ih (listed.setIfInBounds j true) a' w' (inv.set hj) hfree' (ready_mono hr (Ne.symm hji)) h3.1 ?_⟩) h2
      rw [Array.setIfInBounds_comm _ _ hji]
      exact h3.2.2

/-! ### the walk in the text's order -/
def wpMk (P : Program) (ops : Array Oper) (w : World) (R : Act → Prop) : List Oper → Act → Prop
  | [], a => R a
  | o :: rest, a => ∃ v, YieldsE P ops o v a w ∧ wpMk P ops w R rest (a.put o.dst v)
theorem mk_nil {w : World} {R : Act → Prop} {a : Act} (h : R a) : wpMk P ops w R [] a := h
theorem mk_step {w : World} {R : Act → Prop} {a : Act} {o : Oper} {rest : List Oper} (v : Value) (hg : o.guard = none) (hm : Made P o v a w) (h : wpMk P ops w R rest (a.put o.dst v)) : wpMk P ops w R (o :: rest) a :=
  ⟨v, .inl ⟨by simp [Region.wanted, hg], hm⟩, h⟩
theorem mk_want {w : World} {R : Act → Prop} {a : Act} {o : Oper} {rest : List Oper} (v : Value) (hg : Region.wanted o (yielded ops a.tmps) = true) (hm : Made P o v a w) (h : wpMk P ops w R rest (a.put o.dst v)) : wpMk P ops w R (o :: rest) a :=
  ⟨v, .inl ⟨hg, hm⟩, h⟩
theorem mk_skip {w : World} {R : Act → Prop} {a : Act} {o : Oper} {rest : List Oper} (hg : Region.wanted o (yielded ops a.tmps) = false) (h : wpMk P ops w R rest (a.put o.dst undef)) : wpMk P ops w R (o :: rest) a :=
  ⟨undef, .inr ⟨hg, rfl⟩, h⟩
def lexTo (md : Region.Mode) (ops : Array Oper) : Nat → Nat → Array Bool → Bool
  | 0, _, _ => true
  | f + 1, k, listed => (Region.ready md ops listed).contains k && Region.free md ops listed k && lexTo md ops f (k + 1) (listed.setIfInBounds k true)
def marked : Nat → Nat → Array Bool → Array Bool
  | 0, _, listed => listed
  | f + 1, k, listed => marked f (k + 1) (listed.setIfInBounds k true)
theorem G_lex {m n g : Nat} (hsel : Region.noSelect ops = true) (hQ : ∀ (o : Oper) v c a w, Q (.panic c) (a.put o.dst v) w → Q (.panic c) a w) (hB : lateB md ops m n = true) {w : World} {R : Act → Prop} {L : Array Bool}
    (hR : ∀ a, R a → wpG P md ops Q n g L a w) : ∀ (l : List Oper) (k : Nat) (listed : Array Bool) (a : Act), (∀ j, j < l.length → l[j]? = ops[k + j]?) → k + l.length = m → Closed md ops listed →
    lexTo md ops l.length k listed = true → marked l.length k listed = L → wpMk P ops w R l a → wpG P md ops Q n (l.length + g) listed a w
  | [], k, listed, a, _, _, _, _, hL, h => by
    have hL' : listed = L := hL
    subst hL'
    simpa using hR a h
  | o :: l, k, listed, a, hl, hk, inv, hX, hL, h => by
    have h0 : ops[k]? = some o := by simpa using (hl 0 (by simp)).symm
    simp only [List.length_cons, lexTo, Bool.and_eq_true] at hX
    obtain ⟨⟨hr, hf⟩, hX'⟩ := hX
    have hkm : k < m := by simp only [List.length_cons] at hk; omega
    have hr' : k ∈ Region.ready md ops listed := by simpa using hr
    obtain ⟨v, hy, hK⟩ := h
    rw [List.length_cons, show l.length + 1 + g = (l.length + g) + 1 by omega]
    exact G_first h0 (Region.noSelect_spec hsel) (hQ o v) hB hkm _ listed a w inv (Region.free_spec h0 hf) hr' hy
      (G_lex hsel hQ hB hR l (k + 1) _ _ (fun j hj => by have := hl (j + 1) (by simp; omega); simpa [Nat.add_assoc, Nat.add_comm 1 j] using this) (by simp only [List.length_cons] at hk; omega) (inv.set hr') hX' hL hK)

/-- The check on a region, by the kernel: its first m operations yield values; from n on it stores. -/
def madeB (l : List Oper) (m n : Nat) : Bool :=
  Region.noSelect l.toArray && decide (m ≤ l.length) && lateB .any l.toArray m n && lexTo .any l.toArray m 0 (Array.replicate l.length false)
/-- What is left once the first m have come up. -/
def Rest (P : Program) (l : List Oper) (Q : Exit → Act → World → Prop) (m n : Nat) (a : Act) (w : World) : Prop :=
  wpG P .any l.toArray Q n (l.length - m) (marked m 0 (Array.replicate l.length false)) a w
theorem wp_region_made {id m : Nat} (n : Nat) {a : Act} {w : World} {l : List Oper} (hm : P.follows .mixedOrders = true) (hB : madeB l m n = true)
    (hQ : ∀ (o : Oper) v c a w, Q (.panic c) (a.put o.dst v) w → Q (.panic c) a w)
    (h : wpMk P l.toArray w (fun a' => Rest P l Q m n a' w) (l.take m) a) : (Code.region id l.toArray true).wp P Q a w := by
  simp only [madeB, Bool.and_eq_true, decide_eq_true_eq] at hB
  obtain ⟨⟨⟨hsel, hml⟩, hlate⟩, hlex⟩ := hB
  have htl : (l.take m).length = m := by simp; omega
  have inv0 : Closed .any l.toArray (Array.replicate l.length false) :=
    ⟨by simp, fun j oj _ hl => (by rw [getD_replicate_false] at hl; cases hl)⟩
  have H := G_lex (P := P) (md := .any) (Q := Q) (g := l.length - m) (w := w) hsel hQ hlate (R := fun a' => Rest P l Q m n a' w) (L := marked m 0 (Array.replicate l.length false)) (fun a' h => h) (l.take m) 0 (Array.replicate l.length false) a (fun j hj => by
    have hj' : j < m := by rw [htl] at hj; exact hj
    simp [hj']) (by simpa using htl) inv0 (by rw [htl]; exact hlex) (by rw [htl]) h
  rw [htl, show m + (l.length - m) = l.length by omega] at H
  refine wp_region_any hm (wpAny_of_G (n := n) _ _ _ _ ?_)
  have := wpG.ext H (Ext.drew w)
  simpa using this

/-! ### what stands behind them -/
theorem wpOp_plain {i : Nat} {o : Oper} {K : Act → World → Prop} {a : Act} {w : World} (ho : ops[i]? = some o) (hg : o.guard = none) (h : o.wp P a w K Q) : wpOp P ops Q i K a w :=
  wpOp_step ho fun _ hK => by rw [if_pos (by simp [Region.wanted, hg])]; exact Oper.wp_mono hK h
theorem wp_alloc_made {o : Oper} {a : Act} {w : World} {K : Act → World → Prop} {ty : TypeId} {zs : Array Value} {t : TypeId} (ho : o.op = .alloc ty)
    (hz : ∀ W, (Instr.alloc ty true (.tuple #[])).run P W = .ok (.pointer (some ⟨W.heap.size, 0, none⟩)) (W.alloc (.cells zs t)))
    (h : K (a.put o.dst (.pointer (some ⟨w.heap.size, 0, none⟩))) (w.alloc (.cells zs t))) : o.wp P a w K Q := by
  unfold Oper.wp execOp
  simp only [ho, Sem.run_bind, hz w, Result.andThen_ok, Sem.run_pure]
  exact h
theorem heap_new (w : World) (o : Obj) : (w.alloc o).heap[w.heap.size]? = some o := by
  show (w.heap.push o)[w.heap.size]? = _
  simp
theorem ext_setRow {w W : World} {g : Nat} (h : Ext w W) (hg : w.heap.size ≤ g) (cs : Array Value) : Ext w (W.setRow g cs) := below_setRow h hg cs
theorem but_setRow {w W : World} {r : Nat} (h : But r w W) (cs : Array Value) : But r w (W.setRow r cs) :=
  ⟨h.os, h.tape, h.output, by simpa [World.setRow] using h.size, fun k hk hne => (setRow_far W cs (by simpa using hne)).trans (h.block k hk hne)⟩
theorem but_ext {w W : World} {r : Nat} (h : Ext w W) : But r w W := But.of_below h
theorem but_more {w W W' : World} {r : Nat} (h : But r w W) (k : Ext W W') : But r w W' := h.below k
abbrev ptrTo (g : Nat) : Value := .pointer (some ⟨g, 0, none⟩)

section
variable {l : List Oper} {m : Nat} {a : Act} {w : World} {ty t : TypeId} {zs cells old : Array Value} {d : Tmp} {y x : Operand} {r : Nat}
theorem rest_done (hlen : l.length = m) (hr : Region.ready .any l.toArray (marked m 0 (Array.replicate l.length false)) = []) (h : ∀ W, Ext w W → Q .normal a W) : Rest P l Q m m a w := by
  unfold Rest
  rw [hlen, Nat.sub_self]
  rw [hlen] at hr
  exact ⟨hr, h⟩
theorem rest_store (os : Oper) (hlen : l.length = m + 1) (hos : l.toArray[m]? = some os) (ho : os.op = .store ty x y) (hd : os.dst = none) (hg : os.guard = none)
    (hr : Region.ready .any l.toArray (marked m 0 (Array.replicate l.length false)) = [m]) (hr2 : Region.ready .any l.toArray (marked (m + 1) 0 (Array.replicate l.length false)) = [])
    (hmk : (marked m 0 (Array.replicate l.length false)).setIfInBounds m true = marked (m + 1) 0 (Array.replicate l.length false))
    (hx : a.eval x = ptrTo r) (hy : a.eval y = .agg cells) (hb : w.heap[r]? = some (.cells old t (0, 0))) (hi : (P.info? ty).map (·.size) = some cells.size) (hold : old.size = cells.size) (h1 : cells.all (·.oneCell') = true)
    (h : ∀ W, But r w W → W.heap[r]? = some (.cells cells t (0, 0)) → Q .normal a W) : Rest P l Q m m a w := by
  unfold Rest
  rw [show l.length - m = 0 + 1 by omega]
  refine ⟨fun h0 => (by rw [hr] at h0; cases h0), fun i hi' W hW => ?_⟩
  rw [hr] at hi'
  obtain rfl : i = m := by simpa using hi'
  refine wpOp_plain hos hg (wp_store_row ty x y ho r cells hx hy t old (hW.block hb) hi hold h1 ⟨fun h0 => absurd h0 (Nat.lt_irrefl _), ?_⟩)
  rw [hmk]
  refine ⟨hr2, fun W2 hW2 => ?_⟩
  rw [hd]
  exact h W2 (but_more (but_setRow (but_ext hW) cells) hW2) (hW2.block (setRow_heap W r old cells t (0, 0) (hW.block hb)))
theorem rest_store1 {v : Value} {z : Operand} (os oe : Oper) (hlen : l.length = m + 2) (hos : l.toArray[m]? = some os) (hoe : l.toArray[m + 1]? = some oe) (ho : os.op = .store ty x y) (hoe2 : oe.op = .assign z) (hd : os.dst = none) (hde : oe.dst = some d) (hg : os.guard = none) (hge : oe.guard = none)
    (hr : Region.ready .any l.toArray (marked m 0 (Array.replicate l.length false)) = [m]) (hr1 : Region.ready .any l.toArray (marked (m + 1) 0 (Array.replicate l.length false)) = [m + 1]) (hr2 : Region.ready .any l.toArray (marked (m + 2) 0 (Array.replicate l.length false)) = [])
    (hmk : (marked m 0 (Array.replicate l.length false)).setIfInBounds m true = marked (m + 1) 0 (Array.replicate l.length false))
    (hmk1 : (marked (m + 1) 0 (Array.replicate l.length false)).setIfInBounds (m + 1) true = marked (m + 2) 0 (Array.replicate l.length false))
    (hx : a.eval x = ptrTo r) (hy : a.eval y = .agg cells) (hz : a.eval z = v) (hb : w.heap[r]? = some (.cells old t (0, 0))) (hi : (P.info? ty).map (·.size) = some cells.size) (hold : old.size = cells.size) (h1 : cells.all (·.oneCell') = true)
    (h : ∀ W, But r w W → W.heap[r]? = some (.cells cells t (0, 0)) → Q .normal (a.put (some d) v) W) : Rest P l Q m m a w := by
  unfold Rest
  rw [show l.length - m = 0 + 1 + 1 by omega]
  refine ⟨fun h0 => (by rw [hr] at h0; cases h0), fun i hi' W hW => ?_⟩
  rw [hr] at hi'
  obtain rfl : i = m := by simpa using hi'
  refine wpOp_plain hos hg (wp_store_row ty x y ho r cells hx hy t old (hW.block hb) hi hold h1 ⟨fun h0 => absurd h0 (Nat.lt_irrefl _), ?_⟩)
  rw [hmk, hd]
  refine ⟨fun h0 => (by rw [hr1] at h0; cases h0), fun j hj' W1 hW1 => ?_⟩
  rw [hr1] at hj'
  obtain rfl : j = i + 1 := by simpa using hj'
  refine wpOp_plain hoe hge ?_
  have he : (execOp a.eval oe).run P W1 = .ok (.value v) W1 := by
    unfold execOp
    simp only [hoe2, hz, Sem.run_pure]
  unfold Oper.wp
  show oe.upon P a _ _ ((execOp a.eval oe).run P W1)
  rw [he, Oper.upon_value]
  refine ⟨fun h0 => (by omega), ?_⟩
  rw [hmk1, hde]
  refine ⟨hr2, fun W2 hW2 => ?_⟩
  exact h W2 (but_more (but_setRow (but_ext hW) cells) (hW1.trans hW2)) ((hW1.trans hW2).block (setRow_heap W r old cells t (0, 0) (hW.block hb)))
theorem rest_var (oa os : Oper) (hlen : l.length = m + 2) (hoa : l.toArray[m]? = some oa) (hos : l.toArray[m + 1]? = some os) (hoa2 : oa.op = .alloc ty) (ho : os.op = .store ty (.tmp d) y) (hda : oa.dst = some d) (hd : os.dst = none) (hga : oa.guard = none) (hg : os.guard = none)
    (hr : Region.ready .any l.toArray (marked m 0 (Array.replicate l.length false)) = [m]) (hr1 : Region.ready .any l.toArray (marked (m + 1) 0 (Array.replicate l.length false)) = [m + 1]) (hr2 : Region.ready .any l.toArray (marked (m + 2) 0 (Array.replicate l.length false)) = [])
    (hmk : (marked m 0 (Array.replicate l.length false)).setIfInBounds m true = marked (m + 1) 0 (Array.replicate l.length false))
    (hmk1 : (marked (m + 1) 0 (Array.replicate l.length false)).setIfInBounds (m + 1) true = marked (m + 2) 0 (Array.replicate l.length false))
    (hz : ∀ W, (Instr.alloc ty true (.tuple #[])).run P W = .ok (ptrTo W.heap.size) (W.alloc (.cells zs t)))
    (hx : ∀ g, (a.put (some d) (ptrTo g)).eval (.tmp d) = ptrTo g) (hy : ∀ g, (a.put (some d) (ptrTo g)).eval y = .agg cells) (hi : (P.info? ty).map (·.size) = some cells.size) (hold : zs.size = cells.size) (h1 : cells.all (·.oneCell') = true)
    (h : ∀ g W, w.heap.size ≤ g → W.heap[g]? = some (.cells cells t (0, 0)) → Ext w W → Q .normal (a.put (some d) (ptrTo g)) W) : Rest P l Q m (m + 1) a w := by
  unfold Rest
  rw [show l.length - m = 0 + 1 + 1 by omega]
  refine ⟨fun h0 => (by rw [hr] at h0; cases h0), fun i hi' W hW => ?_⟩
  rw [hr] at hi'
  obtain rfl : i = m := by simpa using hi'
  refine wpOp_plain hoa hga (wp_alloc_made hoa2 hz ⟨fun _ => Ext.alloc _ _, ?_⟩)
  rw [hmk, hda]
  refine ⟨fun h0 => (by rw [hr1] at h0; cases h0), fun j hj' W1 hW1 => ?_⟩
  rw [hr1] at hj'
  obtain rfl : j = i + 1 := by simpa using hj'
  refine wpOp_plain hos hg (wp_store_row ty _ y ho W.heap.size cells (hx _) (hy _) t zs (hW1.block (heap_new _ _)) hi hold h1 ⟨fun h0 => absurd h0 (Nat.lt_irrefl _), ?_⟩)
  rw [hmk1]
  refine ⟨hr2, fun W2 hW2 => ?_⟩
  rw [hd]
  exact h W.heap.size W2 (Below.size hW) (hW2.block (setRow_heap W1 _ zs cells t (0, 0) (hW1.block (heap_new _ _)))) ((ext_setRow ((hW.trans (Ext.alloc _ _)).trans hW1) (Below.size hW) cells).trans hW2)
theorem rest_two {ya yb : Operand} {da db : Tmp} {ca cb : Array Value} (oa ob sa sb : Oper) (hlen : l.length = m + 4) (hoa : l.toArray[m]? = some oa) (hob : l.toArray[m + 1]? = some ob) (hsa : l.toArray[m + 2]? = some sa) (hsb : l.toArray[m + 3]? = some sb)
    (hoa2 : oa.op = .alloc ty) (hob2 : ob.op = .alloc ty) (hsa2 : sa.op = .store ty (.tmp da) ya) (hsb2 : sb.op = .store ty (.tmp db) yb) (hda : oa.dst = some da) (hdb : ob.dst = some db) (hd : sa.dst = none) (hd' : sb.dst = none)
    (hga : oa.guard = none) (hgb : ob.guard = none) (hg : sa.guard = none) (hg' : sb.guard = none) (hne : da ≠ db)
    (hr : Region.ready .any l.toArray (marked m 0 (Array.replicate l.length false)) = [m, m + 1])
    (hra : Region.ready .any l.toArray ((marked m 0 (Array.replicate l.length false)).setIfInBounds m true) = [m + 1])
    (hrb : Region.ready .any l.toArray ((marked m 0 (Array.replicate l.length false)).setIfInBounds (m + 1) true) = [m])
    (hr2 : Region.ready .any l.toArray (marked (m + 2) 0 (Array.replicate l.length false)) = [m + 2]) (hr3 : Region.ready .any l.toArray (marked (m + 3) 0 (Array.replicate l.length false)) = [m + 3]) (hr4 : Region.ready .any l.toArray (marked (m + 4) 0 (Array.replicate l.length false)) = [])
    (hma : ((marked m 0 (Array.replicate l.length false)).setIfInBounds m true).setIfInBounds (m + 1) true = marked (m + 2) 0 (Array.replicate l.length false))
    (hm2 : (marked (m + 2) 0 (Array.replicate l.length false)).setIfInBounds (m + 2) true = marked (m + 3) 0 (Array.replicate l.length false))
    (hm3 : (marked (m + 3) 0 (Array.replicate l.length false)).setIfInBounds (m + 3) true = marked (m + 4) 0 (Array.replicate l.length false))
    (hz : ∀ W, (Instr.alloc ty true (.tuple #[])).run P W = .ok (ptrTo W.heap.size) (W.alloc (.cells zs t)))
    (hxa : ∀ g g', ((a.put (some da) (ptrTo g)).put (some db) (ptrTo g')).eval (.tmp da) = ptrTo g) (hxb : ∀ g g', ((a.put (some da) (ptrTo g)).put (some db) (ptrTo g')).eval (.tmp db) = ptrTo g')
    (hya : ∀ g g', ((a.put (some da) (ptrTo g)).put (some db) (ptrTo g')).eval ya = .agg ca) (hyb : ∀ g g', ((a.put (some da) (ptrTo g)).put (some db) (ptrTo g')).eval yb = .agg cb)
    (hia : (P.info? ty).map (·.size) = some ca.size) (hib : (P.info? ty).map (·.size) = some cb.size) (holda : zs.size = ca.size) (holdb : zs.size = cb.size) (h1a : ca.all (·.oneCell') = true) (h1b : cb.all (·.oneCell') = true)
    (h : ∀ g g' W, w.heap.size ≤ g → w.heap.size ≤ g' → W.heap[g]? = some (.cells ca t (0, 0)) → W.heap[g']? = some (.cells cb t (0, 0)) → Ext w W → Q .normal ((a.put (some da) (ptrTo g)).put (some db) (ptrTo g')) W) : Rest P l Q m (m + 2) a w := by
  -- what stands behind both variables
  have fin : ∀ g g' W, w.heap.size ≤ g → w.heap.size ≤ g' → g ≠ g' → W.heap[g]? = some (.cells zs t (0, 0)) → W.heap[g']? = some (.cells zs t (0, 0)) → Ext w W →
      wpG P .any l.toArray Q (m + 2) (0 + 1 + 1) (marked (m + 2) 0 (Array.replicate l.length false)) ((a.put (some da) (ptrTo g)).put (some db) (ptrTo g')) W := by
    intro g g' W hge hge' hgg hbg hbg' hW
    refine ⟨fun h0 => (by rw [hr2] at h0; cases h0), fun i hi' W1 hW1 => ?_⟩
    rw [hr2] at hi'
    obtain rfl : i = m + 2 := by simpa using hi'
    refine wpOp_plain hsa hg (wp_store_row ty _ ya hsa2 g ca (hxa g g') (hya g g') t zs (hW1.block hbg) hia holda h1a ⟨fun h0 => absurd h0 (Nat.lt_irrefl _), ?_⟩)
    rw [hm2, hd]
    refine ⟨fun h0 => (by rw [hr3] at h0; cases h0), fun j hj' W2 hW2 => ?_⟩
    rw [hr3] at hj'
    obtain rfl : j = m + 3 := by simpa using hj'
    have hb1 : (W1.setRow g ca).heap[g']? = some (.cells zs t (0, 0)) := by rw [setRow_far W1 ca (fun e => hgg e.symm)]; exact hW1.block hbg'
    have hb2 : (W1.setRow g ca).heap[g]? = some (.cells ca t (0, 0)) := setRow_heap W1 g zs ca t (0, 0) (hW1.block hbg)
    refine wpOp_plain hsb hg' (wp_store_row ty _ yb hsb2 g' cb (hxb g g') (hyb g g') t zs (hW2.block hb1) hib holdb h1b ⟨fun h0 => (by omega), ?_⟩)
    rw [hm3, hd']
    refine ⟨hr4, fun W3 hW3 => ?_⟩
    refine h g g' W3 hge hge' (hW3.block ?_) (hW3.block (setRow_heap W2 g' zs cb t (0, 0) (hW2.block hb1))) ?_
    · rw [setRow_far W2 cb hgg]; exact hW2.block hb2
    · exact (ext_setRow ((ext_setRow (hW.trans hW1) hge ca).trans hW2) hge' cb).trans hW3
  unfold Rest
  rw [show l.length - m = 0 + 1 + 1 + 1 + 1 by omega]
  refine ⟨fun h0 => (by rw [hr] at h0; cases h0), fun i hi' W hW => ?_⟩
  rw [hr] at hi'
  have hi2 : i = m ∨ i = m + 1 := by simpa using hi'
  rcases hi2 with rfl | rfl
  · refine wpOp_plain hoa hga (wp_alloc_made hoa2 hz ⟨fun _ => Ext.alloc _ _, ?_⟩)
    rw [hda]
    refine ⟨fun h0 => (by rw [hra] at h0; cases h0), fun j hj' W1 hW1 => ?_⟩
    rw [hra] at hj'
    obtain rfl : j = i + 1 := by simpa using hj'
    refine wpOp_plain hob hgb (wp_alloc_made hob2 hz ⟨fun _ => Ext.alloc _ _, ?_⟩)
    rw [hdb, hma]
    have h2 : W.heap.size < W1.heap.size := by have := Below.size hW1; simp at this; omega
    exact fin _ _ _ (Below.size hW) (by have := Below.size hW; omega) (by omega) ((hW1.trans (Ext.alloc _ _)).block (heap_new _ _)) (heap_new _ _) ((hW.trans (Ext.alloc _ _)).trans (hW1.trans (Ext.alloc _ _)))
  · refine wpOp_plain hob hgb (wp_alloc_made hob2 hz ⟨fun _ => Ext.alloc _ _, ?_⟩)
    rw [hdb]
    refine ⟨fun h0 => (by rw [hrb] at h0; cases h0), fun j hj' W1 hW1 => ?_⟩
    rw [hrb] at hj'
    obtain rfl : j = m := by simpa using hj'
    refine wpOp_plain hoa hga (wp_alloc_made hoa2 hz ⟨fun _ => Ext.alloc _ _, ?_⟩)
    rw [hda, Array.setIfInBounds_comm _ _ (by omega), hma, Act.put_comm a _ _ (fun d h0 h1 => hne (by cases h0; cases h1; rfl))]
    have h2 : W.heap.size < W1.heap.size := by have := Below.size hW1; simp at this; omega
    exact fin _ _ _ (by have := Below.size hW; omega) (Below.size hW) (by omega) (heap_new _ _) ((hW1.trans (Ext.alloc _ _)).block (heap_new _ _)) ((hW.trans (Ext.alloc _ _)).trans (hW1.trans (Ext.alloc _ _)))
end

/-! ### a region in its own order -/
def PRest (P : Program) (l : List Oper) (Q : Exit → Act → World → Prop) (m : Nat) (a : Act) (w : World) : Prop := ∀ W, Ext w W → wpList P l.toArray Q (l.drop m) a W
theorem plain_lex {w : World} {R : Act → Prop} {rest : List Oper} (hR : ∀ a, R a → ∀ W, Ext w W → wpList P ops Q rest a W) : ∀ (l : List Oper) (a : Act), wpMk P ops w R l a → ∀ W, Ext w W → wpList P ops Q (l ++ rest) a W
  | [], a, h, W, hW => hR a h W hW
  | o :: l, a, ⟨v, hy, hK⟩, W, hW => wpList_step fun K hK' => by
    rcases hy with ⟨hw, hv⟩ | ⟨hw, rfl⟩
    · rw [if_pos hw]
      exact hv.wp hW fun W' hW' => hK' _ _ (plain_lex hR l _ hK W' (hW.trans hW'))
    · rw [if_neg (by simp [hw])]
      exact hK' _ _ (plain_lex hR l _ hK W hW)
theorem wp_region_plain {id : Nat} (m : Nat) {a : Act} {w : World} {l : List Oper} (h : wpMk P l.toArray w (fun a' => PRest P l Q m a' w) (l.take m) a) : (Code.region id l.toArray false).wp P Q a w := by
  refine wp_region_lit ?_
  have := plain_lex (P := P) (ops := l.toArray) (Q := Q) (w := w) (rest := l.drop m) (R := fun a' => PRest P l Q m a' w) (fun a' h => h) (l.take m) a h w (Ext.refl w)
  rwa [List.take_append_drop] at this
section
variable {l : List Oper} {m : Nat} {a : Act} {w : World} {ty t : TypeId} {zs cells old : Array Value} {d : Tmp} {y x : Operand} {r : Nat}
theorem prest_done (hlen : l.drop m = []) (h : ∀ W, Ext w W → Q .normal a W) : PRest P l Q m a w := fun W hW => by
  rw [hlen]
  exact wpList_nil (h W hW)
theorem prest_store (os : Oper) (hl : l.drop m = [os]) (ho : os.op = .store ty x y) (hd : os.dst = none) (hg : os.guard = none)
    (hx : a.eval x = ptrTo r) (hy : a.eval y = .agg cells) (hb : w.heap[r]? = some (.cells old t (0, 0))) (hi : (P.info? ty).map (·.size) = some cells.size) (hold : old.size = cells.size) (h1 : cells.all (·.oneCell') = true)
    (h : ∀ W, But r w W → W.heap[r]? = some (.cells cells t (0, 0)) → Q .normal a W) : PRest P l Q m a w := fun W hW => by
  rw [hl]
  refine wpList_plain hg fun K hK => wp_store_row ty x y ho r cells hx hy t old (hW.block hb) hi hold h1 (hK _ _ (wpList_nil ?_))
  rw [hd]
  exact h _ (but_setRow (but_ext hW) cells) (setRow_heap W r old cells t (0, 0) (hW.block hb))
theorem wpl_var {rest : List Oper} (oa os : Oper) (hoa2 : oa.op = .alloc ty) (ho : os.op = .store ty (.tmp d) y) (hda : oa.dst = some d) (hd : os.dst = none) (hga : oa.guard = none) (hg : os.guard = none)
    (hz : ∀ W, (Instr.alloc ty true (.tuple #[])).run P W = .ok (ptrTo W.heap.size) (W.alloc (.cells zs t)))
    (hx : ∀ g, (a.put (some d) (ptrTo g)).eval (.tmp d) = ptrTo g) (hy : ∀ g, (a.put (some d) (ptrTo g)).eval y = .agg cells) (hi : (P.info? ty).map (·.size) = some cells.size) (hold : zs.size = cells.size) (h1 : cells.all (·.oneCell') = true)
    (h : ∀ g W, w.heap.size ≤ g → W.heap[g]? = some (.cells cells t (0, 0)) → Ext w W → wpList P ops Q rest (a.put (some d) (ptrTo g)) W) : wpList P ops Q (oa :: os :: rest) a w := by
  refine wpList_plain hga fun K hK => wp_alloc_made hoa2 hz (hK _ _ ?_)
  refine wpList_plain hg fun K hK => ?_
  rw [hda]
  refine wp_store_row ty _ y ho w.heap.size cells (hx _) (hy _) t zs (heap_new _ _) hi hold h1 (hK _ _ ?_)
  rw [hd]
  exact h w.heap.size _ (Nat.le_refl _) (setRow_heap _ _ zs cells t (0, 0) (heap_new _ _)) (ext_setRow (Ext.alloc _ _) (Nat.le_refl _) cells)
theorem prest_var' {rest : List Oper} (oa os : Oper) (hl : l.drop m = oa :: os :: rest) (hoa2 : oa.op = .alloc ty) (ho : os.op = .store ty (.tmp d) y) (hda : oa.dst = some d) (hd : os.dst = none) (hga : oa.guard = none) (hg : os.guard = none)
    (hz : ∀ W, (Instr.alloc ty true (.tuple #[])).run P W = .ok (ptrTo W.heap.size) (W.alloc (.cells zs t)))
    (hx : ∀ g, (a.put (some d) (ptrTo g)).eval (.tmp d) = ptrTo g) (hy : ∀ g, (a.put (some d) (ptrTo g)).eval y = .agg cells) (hi : (P.info? ty).map (·.size) = some cells.size) (hold : zs.size = cells.size) (h1 : cells.all (·.oneCell') = true)
    (h : ∀ g W, w.heap.size ≤ g → W.heap[g]? = some (.cells cells t (0, 0)) → Ext w W → wpList P l.toArray Q rest (a.put (some d) (ptrTo g)) W) : PRest P l Q m a w := fun W hW => by
  rw [hl]
  exact wpl_var oa os hoa2 ho hda hd hga hg hz hx hy hi hold h1 fun g W' h1 h2 h3 => h g W' (Nat.le_trans (Below.size hW) h1) h2 (hW.trans h3)
theorem wpl_store {rest : List Oper} (os : Oper) (ho : os.op = .store ty x y) (hd : os.dst = none) (hg : os.guard = none)
    (hx : a.eval x = ptrTo r) (hy : a.eval y = .agg cells) (hb : w.heap[r]? = some (.cells old t (0, 0))) (hi : (P.info? ty).map (·.size) = some cells.size) (hold : old.size = cells.size) (h1 : cells.all (·.oneCell') = true)
    (h : ∀ W, But r w W → W.heap[r]? = some (.cells cells t (0, 0)) → wpList P ops Q rest a W) : wpList P ops Q (os :: rest) a w := by
  refine wpList_plain hg fun K hK => wp_store_row ty x y ho r cells hx hy t old hb hi hold h1 (hK _ _ ?_)
  rw [hd]
  exact h _ (but_setRow (But.refl _ _) cells) (setRow_heap w r old cells t (0, 0) hb)
theorem prest_store' {rest : List Oper} (os : Oper) (hl : l.drop m = os :: rest) (ho : os.op = .store ty x y) (hd : os.dst = none) (hg : os.guard = none)
    (hx : a.eval x = ptrTo r) (hy : a.eval y = .agg cells) (hb : w.heap[r]? = some (.cells old t (0, 0))) (hi : (P.info? ty).map (·.size) = some cells.size) (hold : old.size = cells.size) (h1 : cells.all (·.oneCell') = true)
    (h : ∀ W, But r w W → W.heap[r]? = some (.cells cells t (0, 0)) → wpList P l.toArray Q rest a W) : PRest P l Q m a w := fun W hW => by
  rw [hl]
  exact wpl_store os ho hd hg hx hy (hW.block hb) hi hold h1 fun W' h1 h2 => h W' ((but_ext hW).trans h1) h2
theorem prest_var (oa os : Oper) (hl : l.drop m = [oa, os]) (hoa2 : oa.op = .alloc ty) (ho : os.op = .store ty (.tmp d) y) (hda : oa.dst = some d) (hd : os.dst = none) (hga : oa.guard = none) (hg : os.guard = none)
    (hz : ∀ W, (Instr.alloc ty true (.tuple #[])).run P W = .ok (ptrTo W.heap.size) (W.alloc (.cells zs t)))
    (hx : ∀ g, (a.put (some d) (ptrTo g)).eval (.tmp d) = ptrTo g) (hy : ∀ g, (a.put (some d) (ptrTo g)).eval y = .agg cells) (hi : (P.info? ty).map (·.size) = some cells.size) (hold : zs.size = cells.size) (h1 : cells.all (·.oneCell') = true)
    (h : ∀ g W, w.heap.size ≤ g → W.heap[g]? = some (.cells cells t (0, 0)) → Ext w W → Q .normal (a.put (some d) (ptrTo g)) W) : PRest P l Q m a w := fun W hW => by
  rw [hl]
  refine wpList_plain hga fun K hK => wp_alloc_made hoa2 hz (hK _ _ ?_)
  refine wpList_plain hg fun K hK => ?_
  rw [hda]
  refine wp_store_row ty _ y ho W.heap.size cells (hx _) (hy _) t zs (heap_new _ _) hi hold h1 (hK _ _ (wpList_nil ?_))
  rw [hd]
  exact h W.heap.size _ (Below.size hW) (setRow_heap _ _ zs cells t (0, 0) (heap_new _ _)) (ext_setRow (hW.trans (Ext.alloc _ _)) (Below.size hW) cells)
end

/-- A call whose answer hangs on the world. -/
theorem wpl_fun {k : FuncId} {xs : List Operand} {ts : Array TypeId} {args : List Value} {rest : List Oper} {o : Oper} {a : Act} {w : World} {R : Value → World → Prop} (hg : o.guard = none)
    (ho : o.op = .call { callee := .value (.func k), args := xs.toArray, argTypes := ts }) (hx : xs.map a.eval = args)
    (he : ∀ W, (callFunc k args.toArray).run P W = .ok (.enter k args.toArray) W) (hc : Calls P k args.toArray w fun e W' => ∃ v, e = .returned v ∧ R v W') (h : ∀ v W', R v W' → wpList P ops Q rest (a.put o.dst v) W') : wpList P ops Q (o :: rest) a w := by
  refine wpList_plain hg fun K hK => ?_
  have h1 : execOp a.eval o = callFunc k (#[] ++ xs.toArray.map a.eval ++ #[]) := by
    cases o
    subst ho
    rfl
  have h2 : (execOp a.eval o).run P w = .ok (.enter k args.toArray) w := by
    rw [h1, List.map_toArray, hx]
    simpa using he w
  unfold Oper.wp
  rw [h2, Oper.upon_enter]
  refine hc.mono ?_
  rintro e W' ⟨v, rfl, hR⟩
  exact hK _ _ (h v W' hR)
/-- Two results, the first a struct or an array that lies in a block. -/
theorem results_row_tmp2 {fn : Func} {p s : Tmp} {ty : TypeId} (h : fn.results = #[.cell p ty, .tmp s]) (tmps : Array Value) (w : World) (g : Nat) (t : TypeId) (cs : Array Value) (fr : Nat × Nat) (d : TypeDesc)
    (hp : tmps.getD p undef = .pointer (some ⟨g, 0, none⟩)) (hg : w.heap[g]? = some (.cells cs t fr)) (hu : P.underlying ty = some d) (hd : d.isRow = true) (hi : (P.info? ty).map (·.size) = some cs.size) :
    (results fn tmps).run P w = .ok (.tuple #[.agg cs, tmps.getD s undef]) w := by
  have hp' : tmps[p]?.getD undef = .pointer (some ⟨g, 0, none⟩) := by simpa using hp
  have hl : (loadVar ty ⟨g, 0, none⟩).run P w = .ok (.agg cs) w := run_loadVar_mid w g 0 ty cs.toList d (fun j v hv => by rw [cell_of_row w g (0 + j) cs t fr hg, Nat.zero_add]; simpa using hv) hu hd (by simpa using hi)
  simp [results, h, hp', asAddr, hl]

/-! ### the walk's frame, kept from the rest -/
theorem mk_mono {w : World} {R R' : Act → Prop} (h : ∀ a, R a → R' a) : ∀ {l : List Oper} {a : Act}, wpMk P ops w R l a → wpMk P ops w R' l a
  | [], _, hh => h _ hh
  | _ :: _, _, ⟨v, hy, hK⟩ => ⟨v, hy, mk_mono h hK⟩
theorem mk_ops {w : World} {R : Act → Prop} : ∀ {l : List Oper} {a : Act}, (l.all fun o => o.guard.isNone) = true → wpMk P #[] w R l a → wpMk P ops w R l a
  | [], _, _, hh => hh
  | o :: l, a, hg, ⟨v, hy, hK⟩ => by
    simp only [List.all_cons, Bool.and_eq_true, Option.isNone_iff_eq_none] at hg
    refine ⟨v, ?_, mk_ops hg.2 hK⟩
    have h1 : ∀ X : Array Oper, Region.wanted o (yielded X a.tmps) = true := fun X => by simp [Region.wanted, hg.1]
    rcases hy with ⟨_, hm⟩ | ⟨hw, _⟩
    · exact .inl ⟨h1 _, hm⟩
    · rw [h1] at hw; cases hw
theorem wp_made {id m : Nat} {A : Act} (n : Nat) {a : Act} {w : World} {l : List Oper} (hm : P.follows .mixedOrders = true) (hB : madeB l m n = true) (hg : ((l.take m).all fun o => o.guard.isNone) = true)
    (h : wpMk P #[] w (fun a' => a' = A) (l.take m) a) (h2 : Rest P l (NoPanic Q) m n A w) : (Code.region id l.toArray true).wp P Q a w :=
  wp_region_noPanic (wp_region_made n hm hB (fun _ _ _ _ _ h => h) (mk_ops hg (mk_mono (fun a' e => by subst e; exact h2) h)))
theorem wp_plain {id m : Nat} {A : Act} {a : Act} {w : World} {l : List Oper} (hg : ((l.take m).all fun o => o.guard.isNone) = true)
    (h : wpMk P #[] w (fun a' => a' = A) (l.take m) a) (h2 : PRest P l Q m A w) : (Code.region id l.toArray false).wp P Q a w :=
  wp_region_plain m (mk_ops hg (mk_mono (fun a' e => by subst e; exact h2) h))
theorem wp_madeG {id m : Nat} {A : Act} (n : Nat) {a : Act} {w : World} {l : List Oper} (hm : P.follows .mixedOrders = true) (hB : madeB l m n = true)
    (h : wpMk P l.toArray w (fun a' => a' = A) (l.take m) a) (h2 : Rest P l (NoPanic Q) m n A w) : (Code.region id l.toArray true).wp P Q a w :=
  wp_region_noPanic (wp_region_made n hm hB (fun _ _ _ _ _ h => h) (mk_mono (fun a' e => by subst e; exact h2) h))
theorem wp_plainG {id m : Nat} {A : Act} {a : Act} {w : World} {l : List Oper}
    (h : wpMk P l.toArray w (fun a' => a' = A) (l.take m) a) (h2 : PRest P l Q m A w) : (Code.region id l.toArray false).wp P Q a w :=
  wp_region_plain m (mk_mono (fun a' e => by subst e; exact h2) h)
theorem mk_end {w : World} {a : Act} : wpMk P ops w (fun a' => a' = a) [] a := rfl

/-! ### operations -/
section
variable {o : Oper} {a : Act} {w : World}
theorem made_val {v : Value} (h : ∀ W, Ext w W → (execOp a.eval o).run P W = .ok (.value v) W) : Made P o v a w := fun W hW => by
  rw [h W hW]
  exact ⟨rfl, Ext.refl W⟩
theorem made_call {v : Value} {f : FuncId} {args : Array Value} (h : ∀ W, (execOp a.eval o).run P W = .ok (.enter f args) W) (hc : ∀ W, Ext w W → Calls P f args W fun e W' => e = .returned v ∧ Ext W W') : Made P o v a w := fun W hW => by
  rw [h W]
  exact hc W hW
theorem made_load {ty : TypeId} {x : Operand} {g off t : Nat} {C : Array Value} {cs : List Value} {fr : Nat × Nat} {d : TypeDesc} (ho : o.op = .load ty x) (hx : a.eval x = .pointer (some ⟨g, off, none⟩)) (hb : w.heap[g]? = some (.cells C t fr))
    (hcs : (C.toList.drop off).take cs.length = cs) (hu : P.underlying ty = some d) (hd : d.isRow = true) (hi : (P.info? ty).map (·.size) = some cs.length) : Made P o (.agg cs.toArray) a w := made_val fun W hW => by
  have hr : W.rangeAt g off cs := fun j v hv => by
    rw [cell_of_row W g (off + j) C t fr (hW.block hb)]
    have hj : j < cs.length := (List.getElem?_eq_some_iff.1 hv).1
    rw [← hcs, List.getElem?_take_of_lt hj, List.getElem?_drop] at hv
    simpa using hv
  unfold execOp
  simp only [ho, hx, Instr.loadAt, Instr.sureAddr, Sem.run_bind, Sem.run_pure, Result.andThen_ok, run_loadVar_mid W g off ty cs d hr hu hd hi]
theorem made_load1 {ty : TypeId} {x : Operand} {g off t : Nat} {C : Array Value} {v : Value} {fr : Nat × Nat} (ho : o.op = .load ty x) (hx : a.eval x = .pointer (some ⟨g, off, none⟩)) (hb : w.heap[g]? = some (.cells C t fr))
    (hcs : C[off]? = some v) (hn : ∀ W, (isAgg ty).run P W = .ok false W) : Made P o v a w := made_val fun W hW => by
  have hr : W.cell? ⟨g, off, none⟩ = some v := by rw [cell_of_row W g off C t fr (hW.block hb), hcs]
  have hl : (load ⟨g, off, none⟩).run P W = .ok v W := by simp [go_sem, hr]
  unfold execOp
  simp only [ho, hx, Instr.loadAt, Instr.sureAddr, Sem.run_bind, Sem.run_pure, Result.andThen_ok, loadVar, hn W, Bool.false_eq_true, if_false, hl]
theorem made_field {s : TypeId} {x : Operand} {f g off : Nat} (ho : o.op = .fieldAddr s x f) (hx : a.eval x = ptrTo g) (hf : ∀ W, (Instr.fieldAt s (ptrTo g) f).run P W = .ok (.pointer (some ⟨g, off, none⟩)) W) : Made P o (.pointer (some ⟨g, off, none⟩)) a w := made_val fun W _ => by
  unfold execOp
  simp only [ho, hx, Sem.run_bind, hf W, Result.andThen_ok, Sem.run_pure]
theorem made_move {x : Operand} {v : Value} (ho : o.op = .move x ∨ o.op = .assign x) (hx : a.eval x = v) : Made P o v a w := made_val fun W _ => by
  unfold execOp
  rcases ho with ho | ho <;> simp only [ho, hx, Sem.run_pure]
theorem made_build {ty : TypeId} {parts : List (Nat × Operand)} {vs : List (Nat × Value)} {v : Value} (ho : o.op = .build ty parts.toArray) (hx : parts.map (fun p => (p.1, a.eval p.2)) = vs)
    (hb : ∀ W, (Instr.build ty vs.toArray).run P W = .ok v W) : Made P o v a w := made_val fun W _ => by
  unfold execOp
  simp only [ho, List.map_toArray]
  rw [show (parts.map fun x => match x with | (i, x) => (i, a.eval x)) = vs from hx]
  simp only [Sem.run_bind, hb W, Result.andThen_ok, Sem.run_pure]
theorem made_func {k : FuncId} {x : Operand} {p : Value} (ho : o.op = .makeFunc (.func k) #[x] #[]) (hx : a.eval x = p) : Made P o (.func (.func k) #[p] #[]) a w := made_val fun W _ => by
  unfold execOp
  simp only [ho]
  generalize hr : a.eval = ρ at *
  have h1 : (#[x].map ρ) = #[p] := by simp [hx]
  rw [h1]
  simp [Instr.makeFunc, go_sem]
theorem made_pick {c x y : Operand} {b : Bool} {v : Value} (ho : o.op = .pick c x y) (hc : a.eval c = .bool b) (hx : (if b then a.eval x else a.eval y) = v) : Made P o v a w := made_val fun W _ => by
  unfold execOp
  simp only [ho]
  generalize a.eval = ρ at *
  subst hx
  rw [hc]
  cases b <;> simp [go_sem, asBool]
theorem made_not {ty : TypeId} {x : Operand} {b : Bool} (ho : o.op = .unOp .not ty x) (hx : a.eval x = .bool b) : Made P o (.bool (!b)) a w := made_val fun W _ => by
  unfold execOp
  simp only [ho]
  generalize a.eval = ρ at *
  rw [hx]
  simp [go_sem, Op.unary]
theorem made_ext {x : Operand} {i : Nat} {vs : Array Value} {v : Value} (ho : o.op = .extract x i) (hx : a.eval x = .tuple vs) (hv : vs[i]? = some v) : Made P o v a w := made_val fun W _ => by
  unfold execOp
  simp only [ho]
  generalize a.eval = ρ at *
  rw [hx]
  simp [Instr.extract, go_sem, hv]
theorem made_iface {ty : TypeId} {x : Operand} {v : Value} (ho : o.op = .makeInterface ty x) (hv : ∀ W, (Instr.makeInterface ty (a.eval x)).run P W = .ok v W) : Made P o v a w := made_val fun W _ => by
  unfold execOp
  simp only [ho, Sem.run_bind, hv W, Result.andThen_ok, Sem.run_pure]
end
end
end Go.Proofs.Ytppfcdpokgnpfaa
