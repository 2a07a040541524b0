/-
  Merged: Mul64 MulMath Mul Is Keep.
-/
import Derived.Deep.RegionHeld3
import Derived.Test.YthgenmoiendakaaDoorZ1

/-
  math/bits.Mul64, limb.mulAdd: the product of two words, and what is added to it.
-/
namespace Go.Proofs.YthgenmoiendakaaDoor
open Go.RowKit

theorem ret_u2 {a b c d : Int} (h : a = b) (h2 : c = d) : Ending.returned (.tuple #[.int .u64 a, .int .u64 c]) = .returned (.tuple #[.int .u64 b, .int .u64 d]) := by rw [h, h2]

set_option maxRecDepth 100000 in
set_option maxHeartbeats 1000000 in
theorem mul64 (x y : Int) (hx : 0 ≤ x) (hx2 : x ≤ 18446744073709551615) (hy : 0 ≤ y) (hy2 : y ≤ 18446744073709551615) (w : World) :
    Calls Tryd.prog 77 #[.int .u64 x, .int .u64 y] w fun e w' => e = .returned (.tuple #[.int .u64 (x * y / 18446744073709551616), .int .u64 (x * y % 18446744073709551616)]) ∧ w' = w := by
  have key := mul64_arith x y hx (by omega) hy (by omega)
  have m1 := and_low32 x hx (by omega)
  have m2 := and_low32 y hy (by omega)
  have K := veil key
  have M1 := veil m1
  have M2 := veil m2
  clear key m1 m2
  go_enter Tryd.func77, Tryd.ntmps77
  go_wp2
  go_ret2
  refine ⟨ret_u2 ?_ ?_, rfl⟩
  · simp only [M1.out, M2.out, IntKind.wrap_u64]
    rw [and_low32 _ (by omega) (by omega)]
    exact K.out
  · exact IntKind.wrap_u64 _

theorem ma_bound {x y : Int} (hx : 0 ≤ x) (hx2 : x ≤ 18446744073709551615) (hy : 0 ≤ y) (hy2 : y ≤ 18446744073709551615) : 0 ≤ x * y ∧ x * y ≤ 340282366920938463426481119284349108225 := by
  refine ⟨Int.mul_nonneg hx hy, ?_⟩
  have := Int.mul_le_mul hx2 hy2 hy (by omega : (0 : Int) ≤ 18446744073709551615)
  omega

set_option maxRecDepth 100000 in
set_option maxHeartbeats 1000000 in
theorem mulAdd_calls (x y u v : Int) (hx : 0 ≤ x) (hx2 : x ≤ 18446744073709551615) (hy : 0 ≤ y) (hy2 : y ≤ 18446744073709551615) (hu : 0 ≤ u) (hu2 : u ≤ 18446744073709551615) (hv : 0 ≤ v) (hv2 : v ≤ 18446744073709551615) (w : World) :
    Calls Tryd.prog 78 #[.int .u64 x, .int .u64 y, .int .u64 u, .int .u64 v] w fun e w' => e = .returned (.tuple #[.int .u64 ((x * y + u + v) % 18446744073709551616), .int .u64 ((x * y + u + v) / 18446744073709551616)]) ∧ w' = w := by
  obtain ⟨p0, p1⟩ := ma_bound hx hx2 hy hy2
  obtain ⟨P, hP⟩ : ∃ P, P = x * y := ⟨_, rfl⟩
  rw [← hP] at p0 p1 ⊢
  obtain ⟨L, hL⟩ : ∃ L, L = P % 18446744073709551616 := ⟨_, rfl⟩
  obtain ⟨Hh, hH⟩ : ∃ Hh, Hh = P / 18446744073709551616 := ⟨_, rfl⟩
  obtain ⟨L1, hL1⟩ : ∃ L1, L1 = (L + u + 0) % 18446744073709551616 := ⟨_, rfl⟩
  obtain ⟨c1, hc1⟩ : ∃ c1, c1 = (L + u + 0) / 18446744073709551616 := ⟨_, rfl⟩
  obtain ⟨L2, hL2⟩ : ∃ L2, L2 = (L1 + v + 0) % 18446744073709551616 := ⟨_, rfl⟩
  obtain ⟨c2, hc2⟩ : ∃ c2, c2 = (L1 + v + 0) / 18446744073709551616 := ⟨_, rfl⟩
  have h29a := fun W => add64 L u 0 (by omega) hu (by omega) (by omega) W
  have h29b := fun W => add64 L1 v 0 (by omega) hv (by omega) (by omega) W
  rw [← hL1, ← hc1] at h29a
  rw [← hL2, ← hc2] at h29b
  have b1 : 0 ≤ Hh := by omega
  have b2 : 0 ≤ c1 := by omega
  have b3 : 0 ≤ c2 := by omega
  have b4 : Hh + c1 ≤ 18446744073709551615 := by omega
  have b5 : Hh + c1 + c2 ≤ 18446744073709551615 := by omega
  have e1 : (P + u + v) % 18446744073709551616 = L2 := by omega
  have e2 : (P + u + v) / 18446744073709551616 = Hh + c1 + c2 := by omega
  have hM := fun W => mul64 x y hx hx2 hy hy2 W
  rw [← hP, ← hL, ← hH] at hM
  have HM := veil hM
  have E := veil (And.intro e1 e2)
  clear hM e1 e2 hP hL hH hL1 hc1 hL2 hc2 p0 p1 hx hx2 hy hy2 hu hu2 hv hv2
  go_enter Tryd.func78, Tryd.ntmps78
  go_wp2_with (go_at_call 77; refine (HM.out _).mono ?_; rintro e w' ⟨rfl, rfl⟩)
  go_ret2
  rw [E.out.1, E.out.2]
  exact ⟨rfl, rfl⟩
end Go.Proofs.YthgenmoiendakaaDoor


/-
  The school's way to a product, digit by digit, in any base. No Go in sight.
-/
namespace Go.Proofs.YthgenmoiendakaaDoor

/-- What i rows come to. -/
def PP (B X Y i : Nat) : Nat := X % B ^ i * Y
/-- The lowest i + j digits of it, and j columns of row i. -/
def TT (B X Y i j : Nat) : Nat := PP B X Y i % B ^ (i + j) + dg B X i * (B ^ i * (Y % B ^ j))
/-- What is carried on. -/
def CC (B X Y i j : Nat) : Nat := TT B X Y i j / B ^ (i + j)
/-- Digit m, behind i rows and j columns. -/
def UU (B X Y i j m : Nat) : Nat := if m < i + j then dg B (TT B X Y i j) m else dg B (PP B X Y i) m

theorem UU_start {B : Nat} (X Y i m : Nat) : UU B X Y i 0 m = dg B (PP B X Y i) m := by
  unfold UU
  split
  · rename_i h
    unfold TT
    simp only [Nat.pow_zero, Nat.mod_one, Nat.mul_zero, Nat.add_zero] at *
    exact dg_mod _ i m h
  · rfl
theorem CC_start {B : Nat} (hB : 0 < B) (X Y i : Nat) : CC B X Y i 0 = 0 := by
  unfold CC TT
  simp only [Nat.pow_zero, Nat.mod_one, Nat.mul_zero, Nat.add_zero]
  exact Nat.div_eq_of_lt (Nat.mod_lt _ (Nat.pow_pos hB))
theorem TT_lt {B : Nat} (hB : 0 < B) (X Y i j : Nat) : TT B X Y i j < B ^ (i + j) * B := by
  have hQ : 0 < B ^ (i + j) := Nat.pow_pos hB
  have h1 := Nat.mod_lt (PP B X Y i) hQ
  have h2 : B ^ i * (Y % B ^ j) ≤ B ^ (i + j) := by
    rw [Nat.pow_add]
    exact Nat.mul_le_mul_left _ (Nat.le_of_lt (Nat.mod_lt _ (Nat.pow_pos hB)))
  have h3 : dg B X i * (B ^ i * (Y % B ^ j)) ≤ (B - 1) * B ^ (i + j) := Nat.mul_le_mul (by have := dg_lt hB X i; omega) h2
  unfold TT
  have h4 : B ^ (i + j) * B = B ^ (i + j) + (B - 1) * B ^ (i + j) := by
    obtain ⟨b, rfl⟩ : ∃ b, B = b + 1 := ⟨B - 1, by omega⟩
    rw [Nat.add_sub_cancel, Nat.mul_add, Nat.mul_one, Nat.mul_comm]
    omega
  omega
theorem CC_lt {B : Nat} (hB : 0 < B) (X Y i j : Nat) : CC B X Y i j < B := by
  unfold CC
  rw [Nat.div_lt_iff_lt_mul (Nat.pow_pos hB), Nat.mul_comm]
  exact TT_lt hB X Y i j
theorem UU_lt {B : Nat} (hB : 0 < B) (X Y i j m : Nat) : UU B X Y i j m < B := by
  unfold UU
  split <;> exact dg_lt hB _ _

theorem TT_step {B : Nat} (X Y i j : Nat) :
    TT B X Y i (j + 1) = TT B X Y i j % B ^ (i + j) + B ^ (i + j) * (dg B X i * dg B Y j + dg B (PP B X Y i) (i + j) + CC B X Y i j) := by
  have h1 : TT B X Y i (j + 1) = TT B X Y i j + B ^ (i + j) * (dg B (PP B X Y i) (i + j) + dg B X i * dg B Y j) := by
    unfold TT
    rw [show i + (j + 1) = (i + j) + 1 by omega, mod_succ B (PP B X Y i) (i + j), mod_succ B Y j, Nat.mul_add (B ^ i), ← Nat.mul_assoc (B ^ i), ← Nat.pow_add, Nat.mul_add (dg B X i), Nat.mul_add (B ^ (i + j)),
      show dg B X i * (B ^ (i + j) * dg B Y j) = B ^ (i + j) * (dg B X i * dg B Y j) by rw [Nat.mul_left_comm]]
    omega
  have h2 : B ^ (i + j) * CC B X Y i j + TT B X Y i j % B ^ (i + j) = TT B X Y i j := Nat.div_add_mod _ _
  rw [h1, Nat.mul_add, Nat.mul_add, Nat.mul_add]
  omega
theorem UU_step {B : Nat} (hB : 0 < B) (X Y i j : Nat) : UU B X Y i (j + 1) (i + j) = (dg B X i * dg B Y j + UU B X Y i j (i + j) + CC B X Y i j) % B := by
  have hu : UU B X Y i j (i + j) = dg B (PP B X Y i) (i + j) := by unfold UU; rw [if_neg (by omega)]
  rw [hu]
  unfold UU
  rw [if_pos (by omega), dg, TT_step, Nat.add_mul_div_left _ _ (Nat.pow_pos hB), Nat.div_eq_of_lt (Nat.mod_lt _ (Nat.pow_pos hB)), Nat.zero_add]
theorem CC_step {B : Nat} (hB : 0 < B) (X Y i j : Nat) : CC B X Y i (j + 1) = (dg B X i * dg B Y j + UU B X Y i j (i + j) + CC B X Y i j) / B := by
  have hu : UU B X Y i j (i + j) = dg B (PP B X Y i) (i + j) := by unfold UU; rw [if_neg (by omega)]
  rw [hu]
  show TT B X Y i (j + 1) / B ^ (i + (j + 1)) = _
  rw [show i + (j + 1) = (i + j) + 1 by omega, Nat.pow_succ, ← Nat.div_div_eq_div_mul, TT_step, Nat.add_mul_div_left _ _ (Nat.pow_pos hB), Nat.div_eq_of_lt (Nat.mod_lt _ (Nat.pow_pos hB)), Nat.zero_add]
theorem UU_other {B : Nat} (X Y i j m : Nat) (hm : m ≠ i + j) : UU B X Y i (j + 1) m = UU B X Y i j m := by
  unfold UU
  by_cases h : m < i + j
  · rw [if_pos (by omega), if_pos h, ← dg_mod _ (i + j) m h, TT_step, Nat.add_mul_mod_self_left, Nat.mod_mod, dg_mod _ (i + j) m h]
  · rw [if_neg (by omega), if_neg h]

theorem PP_lt {B : Nat} (hB : 0 < B) (X Y i n : Nat) (hY : Y < B ^ n) : PP B X Y i < B ^ (i + n) := by
  have h1 : X % B ^ i < B ^ i := Nat.mod_lt _ (Nat.pow_pos hB)
  unfold PP
  rw [Nat.pow_add]
  exact Nat.mul_lt_mul_of_lt_of_le h1 (Nat.le_of_lt hY) (by omega)
theorem PP_step {B : Nat} (hB : 0 < B) (X Y i n : Nat) (hY : Y < B ^ n) : PP B X Y (i + 1) = TT B X Y i n := by
  unfold TT
  rw [Nat.mod_eq_of_lt (PP_lt hB X Y i n hY), Nat.mod_eq_of_lt hY]
  unfold PP
  rw [mod_succ, Nat.add_mul, Nat.mul_comm (B ^ i) (dg B X i), Nat.mul_assoc]
/-- The row's last digit is what was carried. -/
theorem PP_row {B : Nat} (hB : 0 < B) (X Y i n m : Nat) (hY : Y < B ^ n) : dg B (PP B X Y (i + 1)) m = if m = i + n then CC B X Y i n else UU B X Y i n m := by
  rw [PP_step hB X Y i n hY]
  by_cases h : m = i + n
  · subst h
    rw [if_pos rfl]
    show CC B X Y i n % B = _
    exact Nat.mod_eq_of_lt (CC_lt hB X Y i n)
  · rw [if_neg h]
    unfold UU
    by_cases h2 : m < i + n
    · rw [if_pos h2]
    · rw [if_neg h2]
      have hle : B ^ (i + n) * B ≤ B ^ m := by rw [← Nat.pow_succ]; exact Nat.pow_le_pow_right hB (by omega)
      have h3 := TT_lt hB X Y i n
      have h4 := PP_lt hB X Y i n hY
      have h5 : B ^ (i + n) ≤ B ^ (i + n) * B := Nat.le_mul_of_pos_right _ hB
      unfold dg
      rw [Nat.div_eq_of_lt (by omega), Nat.div_eq_of_lt (by omega)]
theorem PP_zero (B X Y : Nat) : PP B X Y 0 = 0 := by simp [PP, Nat.mod_one]
theorem PP_end {B : Nat} (X Y n : Nat) (hX : X < B ^ n) : PP B X Y n = X * Y := by unfold PP; rw [Nat.mod_eq_of_lt hX]
theorem dg_zero (B i : Nat) : dg B 0 i = 0 := by simp [dg]
end Go.Proofs.YthgenmoiendakaaDoor


/-
  limb.Mul: the product.
-/
namespace Go.Proofs.YthgenmoiendakaaDoor
open Go.RowKit

/-- Word m of the product, behind i rows and j columns. -/
def uw (X Y i j m : Nat) : Int := (UU w64 X Y i j m : Nat)
def cw (X Y i j : Nat) : Int := (CC w64 X Y i j : Nat)
theorem uw_bd (X Y i j m : Nat) : 0 ≤ uw X Y i j m ∧ uw X Y i j m ≤ 18446744073709551615 := by
  have := UU_lt w64_pos X Y i j m
  unfold uw; unfold w64 at *; omega
theorem cw_bd (X Y i j : Nat) : 0 ≤ cw X Y i j ∧ cw X Y i j ≤ 18446744073709551615 := by
  have := CC_lt w64_pos X Y i j
  unfold cw; unfold w64 at *; omega
theorem mulAdd_at (X Y i j : Nat) (w : World) :
    Calls Tryd.prog 78 #[.int .u64 (wd X i), .int .u64 (wd Y j), .int .u64 (uw X Y i j (i + j)), .int .u64 (cw X Y i j)] w fun e w' => e = .returned (.tuple #[.int .u64 (uw X Y i (j + 1) (i + j)), .int .u64 (cw X Y i (j + 1))]) ∧ w = w' := by
  have h := mulAdd_calls (wd X i) (wd Y j) (uw X Y i j (i + j)) (cw X Y i j) (wd_lo _ _) (wd_le _ _) (wd_lo _ _) (wd_le _ _) (uw_bd X Y i j _).1 (uw_bd X Y i j _).2 (cw_bd X Y i j).1 (cw_bd X Y i j).2 w
  have e1 : (wd X i * wd Y j + uw X Y i j (i + j) + cw X Y i j) % 18446744073709551616 = uw X Y i (j + 1) (i + j) := by
    unfold wd uw cw
    rw [UU_step w64_pos X Y i j, ← Int.natCast_mul, ← Int.natCast_add, ← Int.natCast_add, Int.natCast_emod]
    rfl
  have e2 : (wd X i * wd Y j + uw X Y i j (i + j) + cw X Y i j) / 18446744073709551616 = cw X Y i (j + 1) := by
    unfold wd uw cw
    rw [CC_step w64_pos X Y i j, ← Int.natCast_mul, ← Int.natCast_add, ← Int.natCast_add, Int.natCast_ediv]
    rfl
  rw [e1, e2] at h
  exact h.mono fun _ _ ⟨a, b⟩ => ⟨a, b.symm⟩

theorem mul_put {X Y i j : Nat} : ∀ m, m < 8 → (if m = i + j then Value.int .u64 (uw X Y i (j + 1) (i + j)) else Value.int .u64 (uw X Y i j m)) = Value.int .u64 (uw X Y i (j + 1) m) := by
  intro m _
  by_cases h : m = i + j
  · rw [if_pos h, h]
  · rw [if_neg h]; unfold uw; rw [UU_other X Y i j m h]
/-- Word m behind i rows. -/
def rw_ (X Y i m : Nat) : Int := (dg w64 (PP w64 X Y i) m : Nat)
theorem uw_start (X Y i m : Nat) : uw X Y i 0 m = rw_ X Y i m := by unfold uw rw_; rw [UU_start]
theorem cw_start (X Y i : Nat) : cw X Y i 0 = 0 := by unfold cw; rw [CC_start w64_pos]; rfl
theorem mul_row {X Y i : Nat} (hY : Y < top) : ∀ m, m < 8 → (if m = i + 4 then Value.int .u64 (cw X Y i 4) else Value.int .u64 (uw X Y i 4 m)) = Value.int .u64 (rw_ X Y (i + 1) m) := by
  intro m _
  have h := PP_row w64_pos X Y i 4 m hY
  unfold rw_
  rw [h]
  by_cases e : m = i + 4
  · rw [if_pos e, if_pos e]; rfl
  · rw [if_neg e, if_neg e]; rfl
theorem rw_zero (X Y m : Nat) : rw_ X Y 0 m = 0 := by unfold rw_; rw [PP_zero, dg_zero]; rfl
theorem rw_end {X Y m : Nat} (hX : X < top) : rw_ X Y 4 m = wd (X * Y) m := by unfold rw_ wd; rw [PP_end X Y 4 hX]

set_option maxRecDepth 100000 in
set_option maxHeartbeats 2000000 in
theorem mul_calls (X Y : Nat) (hX : X < top) (hY : Y < top) (w : World) :
    Calls Tryd.prog 76 #[.agg #[.int .u64 (wd (X) 0), .int .u64 (wd (X) 1), .int .u64 (wd (X) 2), .int .u64 (wd (X) 3)], .agg #[.int .u64 (wd (Y) 0), .int .u64 (wd (Y) 1), .int .u64 (wd (Y) 2), .int .u64 (wd (Y) 3)]] w fun e w' => e = .returned (.agg #[.int .u64 (wd (X * Y) 0), .int .u64 (wd (X * Y) 1), .int .u64 (wd (X * Y) 2), .int .u64 (wd (X * Y) 3), .int .u64 (wd (X * Y) 4), .int .u64 (wd (X * Y) 5), .int .u64 (wd (X * Y) 6), .int .u64 (wd (X * Y) 7)]) ∧ Below w.heap.size w w' := by
  go_enter Tryd.func76, Tryd.ntmps76
  go_wp2
  go_loopw [9] (fun i wr => ∃ k : Nat, k ≤ 4 ∧ i = .int .i64 k ∧ wr.rowIs w.heap.size 24 4 (fun j => .int .u64 (wd X j)) ∧ wr.rowIs (w.heap.size + 1) 24 4 (fun j => .int .u64 (wd Y j))
      ∧ wr.rowIs (w.heap.size + 1 + 1) 65 8 (fun _ => .int .u64 0) ∧ wr.rowIs (w.heap.size + 1 + 1 + 1) 65 8 (fun m => .int .u64 (rw_ X Y k m)) ∧ Below w.heap.size w wr)
    (fun i _ => 4 - (intOf i).toNat)
  case atStart => exact ⟨0, by omega, rfl, (((row_new (n := 4) (by simp) rfl (arr4 fun j => .int .u64 (wd X j))).alloc _).alloc _).alloc _, ((row_new (n := 4) (by simp) rfl (arr4 fun j => .int .u64 (wd Y j))).alloc _).alloc _, (row_new (n := 8) (by simp) rfl (arr8 fun _ => .int .u64 0)).alloc _,
    (row_new (n := 8) (f := fun _ => .int .u64 0) (by simp) rfl (arr8 fun _ => .int .u64 0)).congr (fun m _ => by rw [rw_zero]), ((((Below.refl _ _).alloc (by simp) _).alloc (by simp) _).alloc (by simp; omega) _).alloc (by simp; omega) _⟩
  case round =>
    obtain ⟨i, hi4, rfl, hRX0, hRY0, hRZ0, hP0, hbel0⟩ := hrel
    by_cases hlt : i < 4
    · have hd : decide ((i : Int) < 4) = true := by simp; omega
      go_wp2
      obtain ⟨wo, hwo⟩ : ∃ wo : World, wo = wr := ⟨_, rfl⟩
      rw [← hwo] at hRX0 hRY0 hRZ0 hP0 hbel0 ⊢
      clear hwo
      go_loopw [7, 12] (fun c q wq => ∃ j : Nat, j ≤ 4 ∧ q = .int .i64 j ∧ c = .int .u64 (cw X Y i j) ∧ wq.rowIs w.heap.size 24 4 (fun j => .int .u64 (wd X j)) ∧ wq.rowIs (w.heap.size + 1) 24 4 (fun j => .int .u64 (wd Y j))
          ∧ wq.rowIs (w.heap.size + 1 + 1) 65 8 (fun _ => .int .u64 0) ∧ wq.rowIs (w.heap.size + 1 + 1 + 1) 65 8 (fun m => .int .u64 (uw X Y i j m)) ∧ Below w.heap.size w wq)
        (fun _ q _ => 4 - (intOf q).toNat)
      case atStart => exact ⟨0, by omega, rfl, by rw [cw_start], hRX0, hRY0, hRZ0, hP0.congr (fun m _ => by rw [uw_start]), hbel0⟩
      case round =>
        obtain ⟨j, hj4, rfl, rfl, hRX, hRY, hRZ, hP, hbel⟩ := hrel
        by_cases hlj : j < 4
        · have c1 := hRX.cell hlt
          have c2 := hRY.cell hlj
          obtain ⟨t, ht⟩ : ∃ t, t = i + j := ⟨_, rfl⟩
          have hti : (i : Int) + (j : Int) = (t : Int) := by omega
          have ht8 : (t : Int) < 8 := by omega
          have ht0 : (0 : Int) ≤ (t : Int) := by omega
          have htw : IntKind.i64.wrap (t : Int) = (t : Int) := IntWalk.i64_in _ (by omega)
          have htn : (t : Int).toNat = t := by omega
          have c3 := hP.cell (i := t) (by omega)
          have f3 := hP.frozen t
          have hM := fun W => mulAdd_at X Y i j W
          rw [← ht] at hM
          have HM := veil hM
          have HT := veil ht
          clear hM ht
          clear hRX0 hRY0 hRZ0 hP0 hbel0
          go_wp2
          go_region_with (go_at_call 78; refine (HM.out _).mono ?_; rintro e w' ⟨rfl, rfl⟩)
          all_goals
            go_wp2
            go_roundw
            case rel => exact ⟨j + 1, by omega, by go_num, rfl, (row_far hRX (by omega) _).drew, (row_far hRY (by omega) _).drew, (row_far hRZ (by omega) _).drew, ((hP.set t _).congr (by rw [HT.out]; exact mul_put)).drew, (below_set hbel (by omega) _).drew⟩
            case measure => simp [intOf]; omega
        · obtain rfl : j = 4 := by omega
          clear hRX0 hRY0 hRZ0 hP0 hbel0
          obtain ⟨t, ht⟩ : ∃ t, t = i + 4 := ⟨_, rfl⟩
          have hti : (i : Int) + 4 = (t : Int) := by omega
          have ht8 : (t : Int) < 8 := by omega
          have ht0 : (0 : Int) ≤ (t : Int) := by omega
          have c3 := hP.cell (i := t) (by omega)
          have f3 := hP.frozen t
          have HT := veil ht
          clear ht
          go_wp2
          go_roundw
          case rel => exact ⟨i + 1, by omega, by go_num, row_far hRX (by omega) _, row_far hRY (by omega) _, row_far hRZ (by omega) _, (hP.set t _).congr (by rw [HT.out]; exact mul_row hY), below_set hbel (by omega) _⟩
          case measure => simp [intOf]; omega
    · obtain rfl : i = 4 := by omega
      have hP := hP0.congr (g := fun m => .int .u64 (wd (X * Y) m)) (fun m _ => by rw [rw_end hX])
      obtain ⟨c0, c1, c2, c3, c4, c5, c6, c7⟩ := row_c8 hP
      obtain ⟨d0, d1, d2, d3, d4, d5, d6, d7⟩ := row_c8 hRZ0
      obtain ⟨f0, f1, f2, f3, f4, f5, f6, f7⟩ := row_f8 hRZ0
      clear hRX0 hRY0 hP0 hP
      go_wp2
      refine bodyPost_ret (results_cell_row rfl _ _ (w.heap.size + 1 + 1) 65 #[.int .u64 (wd (X * Y) 0), .int .u64 (wd (X * Y) 1), .int .u64 (wd (X * Y) 2), .int .u64 (wd (X * Y) 3), .int .u64 (wd (X * Y) 4), .int .u64 (wd (X * Y) 5), .int .u64 (wd (X * Y) 6), .int .u64 (wd (X * Y) 7)] (0, 0) _ rfl (blk8 (put8 hRZ0 fun j => .int .u64 (wd (X * Y) j))) Tryd.underlying65 rfl (by kernel_rfl)) rfl ⟨rfl, below_put8 hbel0 (by omega) _ _ _ _ _ _ _ _⟩
end Go.Proofs.YthgenmoiendakaaDoor


/-
  What limb's functions answer, the answer a letter with an equation.
-/
namespace Go.Proofs.YthgenmoiendakaaDoor
open Go.RowKit

theorem kadd (X Y Z : Nat) (u : Bool) (h : (X + Y) % top = Z) (h2 : decide (top ≤ X + Y) = u) (hX : X < top) (hY : Y < top) (w : World) :
    Calls Tryd.prog 67 #[.agg #[.int .u64 (wd (X) 0), .int .u64 (wd (X) 1), .int .u64 (wd (X) 2), .int .u64 (wd (X) 3)], .agg #[.int .u64 (wd (Y) 0), .int .u64 (wd (Y) 1), .int .u64 (wd (Y) 2), .int .u64 (wd (Y) 3)]] w fun e w' => e = .returned (.tuple #[.agg #[.int .u64 (wd (Z) 0), .int .u64 (wd (Z) 1), .int .u64 (wd (Z) 2), .int .u64 (wd (Z) 3)], .bool u]) ∧ Below w.heap.size w w' := by
  subst h; subst h2; exact add_calls X Y hX hY w
theorem ksub (X Y Z : Nat) (u : Bool) (h : (X + top - Y) % top = Z) (h2 : decide (X < Y) = u) (hX : X < top) (hY : Y < top) (w : World) :
    Calls Tryd.prog 68 #[.agg #[.int .u64 (wd (X) 0), .int .u64 (wd (X) 1), .int .u64 (wd (X) 2), .int .u64 (wd (X) 3)], .agg #[.int .u64 (wd (Y) 0), .int .u64 (wd (Y) 1), .int .u64 (wd (Y) 2), .int .u64 (wd (Y) 3)]] w fun e w' => e = .returned (.tuple #[.agg #[.int .u64 (wd (Z) 0), .int .u64 (wd (Z) 1), .int .u64 (wd (Z) 2), .int .u64 (wd (Z) 3)], .bool u]) ∧ Below w.heap.size w w' := by
  subst h; subst h2; exact sub_calls X Y hX hY w
theorem kcmp (X Y : Nat) (c : Int) (h : cmpN X Y = c) (hX : X < top) (hY : Y < top) (w : World) :
    Calls Tryd.prog 24 #[.agg #[.int .u64 (wd (X) 0), .int .u64 (wd (X) 1), .int .u64 (wd (X) 2), .int .u64 (wd (X) 3)], .agg #[.int .u64 (wd (Y) 0), .int .u64 (wd (Y) 1), .int .u64 (wd (Y) 2), .int .u64 (wd (Y) 3)]] w fun e w' => e = .returned (.int .i64 c) ∧ Below w.heap.size w w' := by
  subst h; exact cmp_calls X Y hX hY w
theorem kbit (X n : Nat) (b : Bool) (h : bit X n = b) (hn : n < 256) (w : World) :
    Calls Tryd.prog 53 #[.agg #[.int .u64 (wd (X) 0), .int .u64 (wd (X) 1), .int .u64 (wd (X) 2), .int .u64 (wd (X) 3)], .int .i64 (n : Int)] w fun e w' => e = .returned (.bool b) ∧ Below w.heap.size w w' := by
  subst h; exact bit_in X n hn w
theorem kbit0 (X : Nat) (b : Bool) (h : bit X 0 = b) (w : World) :
    Calls Tryd.prog 53 #[.agg #[.int .u64 (wd (X) 0), .int .u64 (wd (X) 1), .int .u64 (wd (X) 2), .int .u64 (wd (X) 3)], .int .i64 0] w fun e w' => e = .returned (.bool b) ∧ Below w.heap.size w w' :=
  kbit X 0 b h (by decide) w
theorem kmul (X Y Z : Nat) (h : X * Y = Z) (hX : X < top) (hY : Y < top) (w : World) :
    Calls Tryd.prog 76 #[.agg #[.int .u64 (wd (X) 0), .int .u64 (wd (X) 1), .int .u64 (wd (X) 2), .int .u64 (wd (X) 3)], .agg #[.int .u64 (wd (Y) 0), .int .u64 (wd (Y) 1), .int .u64 (wd (Y) 2), .int .u64 (wd (Y) 3)]] w fun e w' => e = .returned (.agg #[.int .u64 (wd (Z) 0), .int .u64 (wd (Z) 1), .int .u64 (wd (Z) 2), .int .u64 (wd (Z) 3), .int .u64 (wd (Z) 4), .int .u64 (wd (Z) 5), .int .u64 (wd (Z) 6), .int .u64 (wd (Z) 7)]) ∧ Below w.heap.size w w' := by
  subst h; exact mul_calls X Y hX hY w
theorem cmp_ge (X Y : Nat) : (0 ≤ cmpN X Y) = ¬ X < Y := by
  unfold cmpN; split
  · simp; omega
  · split <;> simp <;> omega
theorem cmp_lt (X Y : Nat) : (cmpN X Y < 0) = (X < Y) := by
  unfold cmpN; split
  · simp; omega
  · split <;> simp <;> omega
theorem cmp_bd (X Y : Nat) : -1 ≤ cmpN X Y ∧ cmpN X Y ≤ 1 := by
  unfold cmpN; split
  · omega
  · split <;> omega
end Go.Proofs.YthgenmoiendakaaDoor


/-
  What a region that draws keeps.
-/
namespace Go.Proofs.YthgenmoiendakaaDoor
open Go.RowKit

/-- All that was there at wz reads as it did, and is below. -/
def Held (wz w' : World) : Prop := (∀ b o, b < wz.heap.size → w'.cell? ⟨b, o, none⟩ = wz.cell? ⟨b, o, none⟩) ∧ Below wz.heap.size wz w'
theorem look_below {W w' : World} (hb : Below W.heap.size W w') : (∀ b o, b < W.heap.size → w'.cell? ⟨b, o, none⟩ = W.cell? ⟨b, o, none⟩) ∧ (∀ b o, b < W.heap.size → w'.frozen? ⟨b, o, none⟩ = W.frozen? ⟨b, o, none⟩) ∧ (∀ b, b < W.heap.size → b < w'.heap.size) :=
  ⟨fun b o h => hb.cell (p := ⟨b, o, none⟩) h, fun b o h => hb.frozen (p := ⟨b, o, none⟩) h, fun _ h => Nat.lt_of_lt_of_le h hb.size⟩
end Go.Proofs.YthgenmoiendakaaDoor
