/-
  Merged: FMath FBase FAdd FNew.
-/
import Derived.WalkKit
import Derived.WalkSpells
import Derived.WalkLawsBesides
import Derived.Deep.LoopGhost
import Derived.Deep.RegionWith
import Derived.Deep.RegionHeld3
import Derived.Deep.QuietTactic
import Derived.BigQuiet
import Derived.Deep.CutRange
import Derived.Test.YthgenmoiendakaaDoorZ1
import Derived.Test.YthgenmoiendakaaDoorRows
import Derived.Test.YthgenmoiendakaaDoorZ2

/-
  What stands behind a product taken modulo an odd number by words, and behind its inverse modulo 2^64. No Go in sight.
-/
namespace Go.Proofs.YthgenmoiendakaaDoor

def top8 : Nat := w64 ^ 8
theorem top8_eq : top8 = top * top := by unfold top8 top; rw [← Nat.pow_add]
theorem top8_pos : 0 < top8 := Nat.pow_pos w64_pos
theorem w64_val : w64 = 18446744073709551616 := rfl

theorem div_succ' (B n i : Nat) : n / B ^ (i + 1) = n / B ^ i / B := by rw [Nat.pow_succ, Nat.div_div_eq_div_mul]
/-- A digit put in place. -/
theorem setw {B : Nat} (hB : 0 < B) (Z k n v : Nat) (hk : k < n) (hZ : Z < B ^ n) (hv : v < B) :
    ∃ Z', Z' < B ^ n ∧ (∀ m, dg B Z' m = if m = k then v else dg B Z m) ∧ Z' + B ^ k * dg B Z k = Z + B ^ k * v := by
  have hP : 0 < B ^ k := Nat.pow_pos hB
  have e1 : B ^ k * (Z / B ^ k) + Z % B ^ k = Z := Nat.div_add_mod _ _
  have e2 : B * (Z / B ^ k / B) + Z / B ^ k % B = Z / B ^ k := Nat.div_add_mod _ _
  have hr := Nat.mod_lt Z hP
  have hq : Z / B ^ k / B < B ^ (n - (k + 1)) := by
    rw [← div_succ', Nat.div_lt_iff_lt_mul (Nat.pow_pos hB), ← Nat.pow_add, show n - (k + 1) + (k + 1) = n by omega]; exact hZ
  have hn : B ^ n = B ^ k * (B * B ^ (n - (k + 1))) := by
    rw [← Nat.mul_assoc, ← Nat.pow_succ, ← Nat.pow_add]; congr 1; omega
  have hd : dg B Z k = Z / B ^ k % B := rfl
  have hdm : ∀ j, dg B Z (k + 1 + j) = Z / B ^ k / B / B ^ j % B := by
    intro j; unfold dg; rw [Nat.pow_add, ← Nat.div_div_eq_div_mul, div_succ']
  have hlo : ∀ j, j < k → dg B Z j = dg B (Z % B ^ k) j := fun j hj => (dg_mod Z k j hj).symm
  rw [hd, hn]
  clear hd hn hZ
  generalize Z / B ^ k / B = q at *
  generalize Z / B ^ k % B = d at *
  generalize Z / B ^ k = a at *
  generalize Z % B ^ k = r at *
  have hz : r + B ^ k * (v + B * q) = r + B ^ k * v + B ^ k * (B * q) := by rw [Nat.mul_add, Nat.add_assoc]
  refine ⟨r + B ^ k * (v + B * q), ?_, ?_, ?_⟩
  · have : v + B * q + 1 ≤ B * B ^ (n - (k + 1)) := by
      have : B * (q + 1) ≤ B * B ^ (n - (k + 1)) := Nat.mul_le_mul_left _ hq
      rw [Nat.mul_add] at this; omega
    have := Nat.mul_le_mul_left (B ^ k) this
    rw [Nat.mul_add] at this; omega
  · have hdiv : (r + B ^ k * (v + B * q)) / B ^ k = v + B * q := by
      rw [Nat.add_mul_div_left _ _ hP, Nat.div_eq_of_lt hr, Nat.zero_add]
    intro m
    by_cases h : m = k
    · rw [if_pos h, h]
      unfold dg
      rw [hdiv, Nat.add_mul_mod_self_left, Nat.mod_eq_of_lt hv]
    · rw [if_neg h]
      by_cases hlt : m < k
      · rw [← dg_mod _ k m hlt, Nat.add_mul_mod_self_left, Nat.mod_eq_of_lt hr, hlo m hlt]
      · obtain ⟨j, rfl⟩ : ∃ j, m = k + 1 + j := ⟨m - (k + 1), by omega⟩
        rw [hdm]
        unfold dg
        rw [Nat.pow_add, ← Nat.div_div_eq_div_mul, div_succ', hdiv, Nat.add_mul_div_left _ _ hB, Nat.div_eq_of_lt hv, Nat.zero_add]
  · rw [hz, ← e1, ← e2, Nat.mul_add]
    omega

theorem setwd (Z k : Nat) (v : Int) (hk : k < 8) (hZ : Z < top8) (h0 : 0 ≤ v) (h1 : v ≤ 18446744073709551615) :
    ∃ Z', Z' < top8 ∧ (∀ m, wd Z' m = if m = k then v else wd Z m) ∧ Z' + w64 ^ k * dg w64 Z k = Z + w64 ^ k * v.toNat := by
  obtain ⟨Z', a, b, c⟩ := setw w64_pos Z k 8 v.toNat hk hZ (by unfold w64; omega)
  refine ⟨Z', a, fun m => ?_, c⟩
  unfold wd
  rw [b m]
  split
  · omega
  · rfl

/-- A column. -/
theorem col_step {B Z Z' Z0 t m c c' x i j M : Nat} (hM : m = dg B M j) (e : Z + c * B ^ (i + j) = Z0 + t * (M % B ^ j) * B ^ i)
    (hx : x + B * c' = t * m + c + dg B Z (i + j)) (hZ : Z' + B ^ (i + j) * dg B Z (i + j) = Z + B ^ (i + j) * x) :
    Z' + c' * B ^ (i + (j + 1)) = Z0 + t * (M % B ^ (j + 1)) * B ^ i := by
  rw [mod_succ, ← hM, ← Nat.add_assoc i j 1, Nat.pow_succ B (i + j)]
  have h1 : t * (M % B ^ j + B ^ j * m) * B ^ i = t * (M % B ^ j) * B ^ i + B ^ (i + j) * (t * m) := by
    rw [Nat.mul_add, Nat.add_mul, Nat.pow_add]
    congr 1
    rw [Nat.mul_left_comm t, Nat.mul_comm (B ^ i), Nat.mul_comm (B ^ j * B ^ i), Nat.mul_comm (B ^ j), Nat.mul_assoc]
  have h2 := congrArg (fun z => B ^ (i + j) * z) hx
  simp only [Nat.mul_add] at h2
  rw [h1]
  have h3 : c' * (B ^ (i + j) * B) = B ^ (i + j) * (B * c') := by rw [Nat.mul_comm c', Nat.mul_assoc]
  rw [h3]
  rw [Nat.mul_comm c] at e
  generalize B ^ (i + j) * (B * c') = p1 at *
  generalize B ^ (i + j) * (t * m) = p2 at *
  generalize B ^ (i + j) * c = p3 at *
  generalize B ^ (i + j) * dg B Z (i + j) = p4 at *
  generalize B ^ (i + j) * x = p5 at *
  omega

theorem low_dvd {B Z : Nat} {k : Nat} (h : Z % B ^ k = 0) : Z = B ^ k * (Z / B ^ k) := by
  have := Nat.div_add_mod Z (B ^ k); omega

/-- A row. -/
theorem row_done {B X M Z Z1 Z2 T t c o o' x k : Nat} (hlow : Z % B ^ k = 0) (hT : T < B ^ k) (ht : t < B) (hM : M < B ^ 4) (e : Z + o * B ^ (k + 4) = X + T * M)
    (ht0 : (dg B Z k + t * dg B M 0) % B = 0) (h1 : Z1 + c * B ^ (k + 4) = Z + t * (M % B ^ 4) * B ^ k) (hx : x + B * o' = dg B Z1 (k + 4) + c + o)
    (h2 : Z2 + B ^ (k + 4) * dg B Z1 (k + 4) = Z1 + B ^ (k + 4) * x) :
    Z2 % B ^ (k + 1) = 0 ∧ T + B ^ k * t < B ^ (k + 1) ∧ Z2 + o' * B ^ (k + 1 + 4) = X + (T + B ^ k * t) * M := by
  have hz := low_dvd hlow
  rw [Nat.mod_eq_of_lt hM] at h1
  have hp5 : B ^ (k + 1 + 4) = B ^ (k + 4) * B := by rw [← Nat.pow_succ, show k + 1 + 4 = k + 4 + 1 by omega]
  have hq : B ^ (k + 4) = B ^ (k + 1) * B ^ 3 := by rw [← Nat.pow_add, show k + 1 + 3 = k + 4 by omega]
  have f : Z2 + o' * B ^ (k + 1 + 4) = Z + t * M * B ^ k + o * B ^ (k + 4) := by
    have h3 := congrArg (fun z => B ^ (k + 4) * z) hx
    simp only [Nat.mul_add] at h3
    rw [hp5, Nat.mul_comm o', Nat.mul_assoc (B ^ (k + 4)), Nat.mul_comm o]
    rw [Nat.mul_comm c] at h1
    generalize B ^ (k + 4) * dg B Z1 (k + 4) = p1 at *
    generalize B ^ (k + 4) * x = p2 at *
    generalize B ^ (k + 4) * c = p3 at *
    generalize B ^ (k + 4) * o = p4 at *
    generalize B ^ (k + 4) * (B * o') = p5 at *
    omega
  refine ⟨?_, ?_, ?_⟩
  · have g : (Z2 + o' * B ^ (k + 1 + 4)) % B ^ (k + 1) = Z2 % B ^ (k + 1) := by
      rw [hp5, hq, Nat.mul_comm o', Nat.mul_assoc, Nat.mul_assoc, Nat.add_mul_mod_self_left]
    rw [← g, f, hq, Nat.mul_comm o, Nat.mul_assoc (B ^ (k + 1)), Nat.add_mul_mod_self_left]
    have hd : (Z / B ^ k + t * M) % B = 0 := by
      have : dg B Z k = Z / B ^ k % B := rfl
      rw [this] at ht0
      have h0 : dg B M 0 = M % B := by unfold dg; rw [Nat.pow_zero, Nat.div_one]
      rw [h0, Nat.mod_add_mod, Nat.add_mod, Nat.mul_mod, Nat.mod_mod, ← Nat.mul_mod, ← Nat.add_mod] at ht0
      exact ht0
    rw [hz, Nat.mul_comm (t * M), ← Nat.mul_add, Nat.pow_succ, Nat.mul_mod_mul_left, hd, Nat.mul_zero]
  · rw [Nat.pow_succ]
    have : B ^ k * (t + 1) ≤ B ^ k * B := Nat.mul_le_mul_left _ ht
    rw [Nat.mul_add] at this; omega
  · rw [f, Nat.add_mul, Nat.mul_right_comm t M, Nat.mul_comm (B ^ k) t]
    generalize t * B ^ k * M = p3 at *
    generalize o * B ^ (k + 4) = p1 at *
    generalize T * M = p2 at *
    omega

/-- The factor that makes a word 0. -/
theorem times_zero {d n m : Int} (h : (18446744073709551616 : Int) ∣ m * n - 1) :
    (d + (-d % 18446744073709551616 * n) % 18446744073709551616 * m) % 18446744073709551616 = 0 := by
  have e1 := Int.emod_add_mul_ediv (-d) 18446744073709551616
  have e2 := Int.emod_add_mul_ediv (-d % 18446744073709551616 * n) 18446744073709551616
  generalize -d % 18446744073709551616 * n / 18446744073709551616 = q2 at *
  generalize -d % 18446744073709551616 * n % 18446744073709551616 = t at *
  generalize -d / 18446744073709551616 = q1 at *
  generalize -d % 18446744073709551616 = s at *
  obtain ⟨c, hc⟩ := h
  apply Int.emod_eq_zero_of_dvd
  refine ⟨-d * c - q1 * n * m - q2 * m, ?_⟩
  have et : t = s * n - 18446744073709551616 * q2 := by omega
  have es : s = -d - 18446744073709551616 * q1 := by omega
  have hmn : m * n = 18446744073709551616 * c + 1 := by omega
  rw [et, es]
  have : (-d - 18446744073709551616 * q1) * n * m = (-d - 18446744073709551616 * q1) * (m * n) := by rw [Int.mul_assoc, Int.mul_comm n]
  simp only [Int.sub_mul, Int.mul_sub, Int.neg_mul, Int.mul_assoc] at *
  rw [Int.mul_comm n m, hmn]
  simp only [Int.mul_add, Int.mul_one]
  have e3 : d * (18446744073709551616 * c) = 18446744073709551616 * (d * c) := by rw [Int.mul_left_comm]
  rw [e3]
  have e4 : q1 * (18446744073709551616 * c) = 18446744073709551616 * (q1 * c) := by rw [Int.mul_left_comm]
  rw [e4]
  omega

/-! ### Newton's steps -/
theorem newton {D E m x : Int} (h : D ∣ m * x - 1) (hE : E ∣ D * D) (hW : E ∣ 18446744073709551616) :
    E ∣ m * (x * ((2 - m * x % 18446744073709551616) % 18446744073709551616) % 18446744073709551616) - 1 := by
  obtain ⟨a, ha⟩ := h
  have e1 := Int.emod_add_mul_ediv (m * x) 18446744073709551616
  have e2 := Int.emod_add_mul_ediv (2 - m * x % 18446744073709551616) 18446744073709551616
  have e3 := Int.emod_add_mul_ediv (x * ((2 - m * x % 18446744073709551616) % 18446744073709551616)) 18446744073709551616
  generalize x * ((2 - m * x % 18446744073709551616) % 18446744073709551616) / 18446744073709551616 = q3 at *
  generalize x * ((2 - m * x % 18446744073709551616) % 18446744073709551616) % 18446744073709551616 = t3 at *
  generalize (2 - m * x % 18446744073709551616) / 18446744073709551616 = q2 at *
  generalize (2 - m * x % 18446744073709551616) % 18446744073709551616 = t2 at *
  generalize m * x / 18446744073709551616 = q1 at *
  generalize m * x % 18446744073709551616 = t1 at *
  -- m x = 1 + D a; t2 = 2 - m x + W (q1 - q2); t3 = x t2 - W q3
  have h3 : t3 = x * t2 - 18446744073709551616 * q3 := by omega
  have h2 : t2 = 2 - m * x + 18446744073709551616 * (q1 - q2) := by omega
  have hk : m * t3 - 1 = -(D * D) * (a * a) + 18446744073709551616 * (m * x * (q1 - q2) - m * q3) := by
    rw [h3, h2]
    have hx : m * x = 1 + D * a := by omega
    rw [Int.mul_sub, ← Int.mul_assoc, Int.mul_add, hx, Int.mul_left_comm m, Int.mul_left_comm (1 + D * a) 18446744073709551616]
    have : (1 + D * a) * (2 - (1 + D * a)) = 1 - D * D * (a * a) := by
      rw [show (2 : Int) - (1 + D * a) = 1 - D * a by omega, Int.mul_sub, Int.mul_one, Int.add_mul, Int.one_mul]
      have : D * a * (D * a) = D * D * (a * a) := by rw [Int.mul_assoc, Int.mul_left_comm a, Int.mul_assoc]
      omega
    rw [this, Int.neg_mul, Int.mul_sub]
    omega
  rw [hk]
  exact Int.dvd_add (Int.dvd_trans (Int.dvd_neg.2 hE) (Int.dvd_mul_right _ _)) (Int.dvd_trans hW (Int.dvd_mul_right _ _))

/-- How right it is behind k steps. -/
def dv (k : Nat) : Int := match k with | 0 => 8 | 1 => 64 | 2 => 4096 | 3 => 16777216 | 4 => 281474976710656 | _ => 18446744073709551616
theorem dv_start {m : Int} (h : m % 2 = 1) : dv 0 ∣ m * m - 1 := by
  show (8 : Int) ∣ m * m - 1
  obtain ⟨a, b, ha, hb⟩ : ∃ a b : Int, m = 8 * a + b ∧ (b = 1 ∨ b = 3 ∨ b = 5 ∨ b = 7) := ⟨m / 8, m % 8, by omega, by omega⟩
  have : m * m = 8 * (a * (8 * a) + 2 * (a * b)) + b * b := by
    rw [ha, Int.add_mul, Int.mul_add, Int.mul_add, Int.mul_assoc, Int.mul_assoc, Int.mul_comm b, Int.mul_assoc 8 a b]
    omega
  rw [this]
  rcases hb with rfl | rfl | rfl | rfl <;> omega
theorem dv_step {m x : Int} {k : Nat} (hk : k < 5) (h : dv k ∣ m * x - 1) :
    dv (k + 1) ∣ m * (x * ((2 - m * x % 18446744073709551616) % 18446744073709551616) % 18446744073709551616) - 1 := by
  refine newton h ?_ ?_
  · match k, hk with
    | 0, _ => decide
    | 1, _ => decide
    | 2, _ => decide
    | 3, _ => decide
    | 4, _ => decide
  · match k, hk with
    | 0, _ => decide
    | 1, _ => decide
    | 2, _ => decide
    | 3, _ => decide
    | 4, _ => decide

/-! ### modulo an odd number, 2^256 can be taken away -/
theorem top_two : top = 2 ^ 256 := by decide
theorem cop_top {M : Nat} (h : M % 2 = 1) : Nat.Coprime top M := by
  rw [top_two]
  apply Nat.Coprime.pow_left
  unfold Nat.Coprime
  rw [Nat.gcd_rec, h]; rfl
theorem cut_top {M A B : Nat} (hM : M % 2 = 1) (h : A * top % M = B * top % M) : A % M = B % M := by
  have hc : Nat.Coprime M top := (cop_top hM).symm
  have key : ∀ {a b : Nat}, a ≤ b → a * top % M = b * top % M → a % M = b % M := by
    intro a b hab h
    have h1 : M ∣ (b - a) * top := by
      rw [Nat.sub_mul]
      exact Nat.dvd_of_mod_eq_zero (Nat.sub_mod_eq_zero_of_mod_eq h.symm)
    have h2 : M ∣ b - a := Nat.Coprime.dvd_of_dvd_mul_right hc h1
    obtain ⟨c, hc2⟩ := h2
    rw [show b = a + M * c by omega, Nat.add_mul_mod_self_left]
  rcases Nat.le_total A B with hab | hab
  · exact key hab h
  · exact (key hab h.symm).symm

/-- What is left when the low half is 0: below 2^256 and the modulus. -/
theorem shr_sum {X M Z T o : Nat} (hX : X < top8) (hT : T < top) (hM0 : 0 < M) (hlow : Z % top = 0) (e : Z + o * top8 = X + T * M) :
    (Z / top + o * top) * top = X + T * M ∧ Z / top + o * top < top + M ∧ (X < M * top → Z / top + o * top < 2 * M) := by
  have hp := top_pos
  have hz : top * (Z / top) + Z % top = Z := Nat.div_add_mod _ _
  rw [top8_eq] at *
  have e2 : (Z / top + o * top) * top = X + T * M := by
    rw [Nat.add_mul, Nat.mul_assoc, Nat.mul_comm (Z / top)]; omega
  have hTM : T * M < top * M := Nat.mul_lt_mul_of_pos_right hT hM0
  refine ⟨e2, ?_, fun h => ?_⟩
  · apply Nat.lt_of_mul_lt_mul_right (a := top)
    rw [e2, Nat.add_mul, Nat.mul_comm M]; omega
  · apply Nat.lt_of_mul_lt_mul_right (a := top)
    rw [e2, Nat.mul_assoc 2, Nat.mul_comm M] at *
    omega
end Go.Proofs.YthgenmoiendakaaDoor


/-
  A field's block; field.wide, Mod, inverseOf.
-/
namespace Go.Proofs.YthgenmoiendakaaDoor
open Go.RowKit

/-- The cells of a field's block. -/
def fdf (M : Nat) (N : Int) (Q : Nat) : Nat → Value := fun j => if j < 4 then .int .u64 (wd M j) else if j = 4 then .int .u64 N else .int .u64 (wd Q (j - 5))
def Fb (w : World) (b M : Nat) (N : Int) (Q : Nat) : Prop := w.rowIs b 91 9 (fdf M N Q)
/-- What a field's numbers are. -/
structure Fok (M : Nat) (N : Int) (Q : Nat) : Prop where
  m2 : 2 < M
  odd : M % 2 = 1
  mt : M < top
  n0 : 0 ≤ N
  n1 : N ≤ 18446744073709551615
  inv : (18446744073709551616 : Int) ∣ wd M 0 * N - 1
  q : Q = top8 % M
theorem Fok.qm {M : Nat} {N : Int} {Q : Nat} (h : Fok M N Q) : Q < M := by rw [h.q]; exact Nat.mod_lt _ (by have := h.m2; omega)

section
variable {w w' : World} {b M Q B : Nat} {N : Int}
theorem Fb.lt (h : Fb w b M N Q) : b < w.heap.size := World.rowIs.lt h
theorem Fb.below (h : Fb w b M N Q) (hb : Below B w w') (hlt : b < B) : Fb w' b M N Q := row_below h hb hlt
theorem Fb.call (h : Fb w b M N Q) (hb : Below w.heap.size w w') : Fb w' b M N Q := row_below h hb h.lt
theorem Fb.drew (h : Fb w b M N Q) : Fb w.drew b M N Q := h
theorem Fb.alloc (h : Fb w b M N Q) (o : Obj) : Fb (w.alloc o) b M N Q := World.rowIs.alloc h o
theorem Fb.far {b' i : Nat} (h : Fb w b M N Q) (hne : b ≠ b') (v : Value) : Fb (w.setCell ⟨b', i, none⟩ v) b M N Q := row_far h hne v
theorem Fb.mod (h : Fb w b M N Q) : w.cell? ⟨b, 0, none⟩ = some (.int .u64 (wd M 0)) ∧ w.cell? ⟨b, 1, none⟩ = some (.int .u64 (wd M 1)) ∧ w.cell? ⟨b, 2, none⟩ = some (.int .u64 (wd M 2)) ∧ w.cell? ⟨b, 3, none⟩ = some (.int .u64 (wd M 3)) :=
  ⟨World.rowIs.cell h (by omega), World.rowIs.cell h (by omega), World.rowIs.cell h (by omega), World.rowIs.cell h (by omega)⟩
theorem Fb.inv (h : Fb w b M N Q) : w.cell? ⟨b, 4, none⟩ = some (.int .u64 N) := World.rowIs.cell h (by omega)
theorem Fb.sq (h : Fb w b M N Q) : w.cell? ⟨b, 5, none⟩ = some (.int .u64 (wd Q 0)) ∧ w.cell? ⟨b, 6, none⟩ = some (.int .u64 (wd Q 1)) ∧ w.cell? ⟨b, 7, none⟩ = some (.int .u64 (wd Q 2)) ∧ w.cell? ⟨b, 8, none⟩ = some (.int .u64 (wd Q 3)) :=
  ⟨World.rowIs.cell h (by omega), World.rowIs.cell h (by omega), World.rowIs.cell h (by omega), World.rowIs.cell h (by omega)⟩
end

theorem wide_num (X : Nat) (h : X < top) : wd X 4 = 0 ∧ wd X 5 = 0 ∧ wd X 6 = 0 ∧ wd X 7 = 0 := by
  have e : ∀ i, 4 ≤ i → wd X i = 0 := by
    intro i hi
    unfold wd dg
    rw [Nat.div_eq_of_lt (Nat.lt_of_lt_of_le h (Nat.pow_le_pow_right w64_pos hi))]; rfl
  exact ⟨e 4 (by omega), e 5 (by omega), e 6 (by omega), e 7 (by omega)⟩

set_option maxRecDepth 100000 in
set_option maxHeartbeats 1000000 in
theorem wide_calls (X : Nat) (hX : X < top) (w : World) :
    Calls Tryd.prog 70 #[.agg #[.int .u64 (wd (X) 0), .int .u64 (wd (X) 1), .int .u64 (wd (X) 2), .int .u64 (wd (X) 3)]] w fun e w' => e = .returned (.agg #[.int .u64 (wd (X) 0), .int .u64 (wd (X) 1), .int .u64 (wd (X) 2), .int .u64 (wd (X) 3), .int .u64 (wd (X) 4), .int .u64 (wd (X) 5), .int .u64 (wd (X) 6), .int .u64 (wd (X) 7)]) ∧ Below w.heap.size w w' := by
  obtain ⟨e4, e5, e6, e7⟩ := wide_num X hX
  rw [e4, e5, e6, e7]
  have hA0 : ((w.alloc (.cells #[.int .u64 (wd (X) 0), .int .u64 (wd (X) 1), .int .u64 (wd (X) 2), .int .u64 (wd (X) 3)] 24)).alloc (.cells #[.int .u64 0, .int .u64 0, .int .u64 0, .int .u64 0, .int .u64 0, .int .u64 0, .int .u64 0, .int .u64 0] 65)).rowIs w.heap.size 24 4 (fun j => .int .u64 (wd X j)) := (row_new (n := 4) (by simp) rfl (arr4 fun j => .int .u64 (wd X j))).alloc _
  have hR0 : ((w.alloc (.cells #[.int .u64 (wd (X) 0), .int .u64 (wd (X) 1), .int .u64 (wd (X) 2), .int .u64 (wd (X) 3)] 24)).alloc (.cells #[.int .u64 0, .int .u64 0, .int .u64 0, .int .u64 0, .int .u64 0, .int .u64 0, .int .u64 0, .int .u64 0] 65)).rowIs (w.heap.size + 1) 65 8 (fun _ => .int .u64 0) := row_new (n := 8) (by simp) rfl (arr8 fun _ => .int .u64 0)
  obtain ⟨c0, c1, c2, c3⟩ := row_c4 hA0
  obtain ⟨f0, f1, f2, f3, f4, f5, f6, f7⟩ := row_f8 hR0
  obtain ⟨d0, d1, d2, d3, d4, d5, d6, d7⟩ := row_c8 hR0
  clear e4 e5 e6 e7
  go_enter Tryd.func70, Tryd.ntmps70
  go_wp2
  exact bodyPost_ret (results_cell_row rfl _ _ (w.heap.size + 1) 65 #[.int .u64 (wd X 0), .int .u64 (wd X 1), .int .u64 (wd X 2), .int .u64 (wd X 3), .int .u64 0, .int .u64 0, .int .u64 0, .int .u64 0] (0, 0) _ rfl (blk8 (row_new (n := 8) (f := fun j => if j < 4 then Value.int .u64 (wd X j) else .int .u64 0) (by simp) rfl (arr8 fun j => if j < 4 then Value.int .u64 (wd X j) else .int .u64 0))) Tryd.underlying65 rfl (by kernel_rfl)) rfl ⟨rfl, ((Below.refl _ _).alloc (by simp) _).alloc (by simp) _⟩

theorem wrap_in {x y : Int} (h : x % 18446744073709551616 = y) : IntKind.u64.wrap x = y := by rw [IntKind.wrap_u64]; exact h
set_option maxRecDepth 100000 in
set_option maxHeartbeats 1000000 in
theorem inverse_calls (m : Int) (h0 : 0 ≤ m) (h1 : m ≤ 18446744073709551615) (hodd : m % 2 = 1) (w : World) :
    Calls Tryd.prog 54 #[.int .u64 m] w fun e w' => ∃ n : Int, 0 ≤ n ∧ n ≤ 18446744073709551615 ∧ (18446744073709551616 : Int) ∣ m * n - 1 ∧ e = .returned (.int .u64 n) ∧ w' = w := by
  have hS := veil (dv_start hodd)
  clear hodd
  go_enter Tryd.func54, Tryd.ntmps54
  go_wp2
  go_loopw [3, 5] (fun x i wr => ∃ (k : Nat) (n : Int), k ≤ 5 ∧ i = .int .i64 (k : Int) ∧ x = .int .u64 n ∧ 0 ≤ n ∧ n ≤ 18446744073709551615 ∧ Hid (dv k ∣ m * n - 1) ∧ wr = w)
    (fun _ i _ => 5 - (intOf i).toNat)
  case atStart => exact ⟨0, m, by omega, rfl, rfl, h0, h1, hS, rfl⟩
  case round =>
    obtain ⟨k, n, hk, rfl, rfl, n0, n1, hD, rfl⟩ := hrel
    by_cases hlt : k < 5
    · have hn := veil (dv_step hlt hD.out)
      obtain ⟨y, hy⟩ : ∃ y, y = n * ((2 - m * n % 18446744073709551616) % 18446744073709551616) % 18446744073709551616 := ⟨_, rfl⟩
      rw [← hy] at hn
      have y0 : 0 ≤ y := by omega
      have y1 : y ≤ 18446744073709551615 := by omega
      have hY := veil hy
      clear hy
      go_wp2
      go_roundw
      case rel => exact ⟨k + 1, y, by omega, by go_num, by simp only [IntKind.wrap_u64]; rw [hY.out], y0, y1, hn, trivial⟩
      case measure => simp [intOf]; omega
    · obtain rfl : k = 5 := by omega
      go_wp2
      go_ret
      exact ⟨n, n0, n1, hD.out, rfl, rfl⟩
end Go.Proofs.YthgenmoiendakaaDoor


/-
  (*field.Field).add: the sum of two numbers below the modulus.
-/
namespace Go.Proofs.YthgenmoiendakaaDoor
open Go.RowKit

theorem fsum_num {X Y M : Nat} (hX : X < M) (hY : Y < M) (hM : M ≤ top) : (X + Y) % M = if top ≤ X + Y ∨ ¬ (X + Y) % top < M then ((X + Y) % top + top - M) % top else (X + Y) % top := by
  by_cases h : top ≤ X + Y
  · rw [if_pos (Or.inl h)]
    have e : (X + Y) % top = X + Y - top := by rw [Nat.mod_eq_sub_mod h, Nat.mod_eq_of_lt (by omega)]
    rw [e, Nat.mod_eq_sub_mod (by omega), Nat.mod_eq_of_lt (by omega), Nat.mod_eq_of_lt (by omega)]; omega
  · rw [Nat.mod_eq_of_lt (by omega : X + Y < top)]
    by_cases h2 : X + Y < M
    · rw [if_neg (by omega), Nat.mod_eq_of_lt h2]
    · rw [if_pos (Or.inr h2), Nat.mod_eq_sub_mod (by omega), Nat.mod_eq_of_lt (by omega), show X + Y + top - M = (X + Y - M) + top by omega, Nat.add_mod_right, Nat.mod_eq_of_lt (by omega)]

set_option maxRecDepth 100000 in
set_option maxHeartbeats 8000000 in
theorem fadd_over (b X Y M : Nat) (N : Int) (Q : Nat) (S : Nat) (hX0 : X < top) (hY0 : Y < top) (hM : M < top) (hS : (X + Y) % top = S) (hu : decide (top ≤ X + Y) = true) (D : Nat) (hD : (S + top - M) % top = D) (w : World) (hF : Fb w b M N Q) :
    Calls Tryd.prog 55 #[.pointer (some ⟨b, 0, none⟩), .agg #[.int .u64 (wd (X) 0), .int .u64 (wd (X) 1), .int .u64 (wd (X) 2), .int .u64 (wd (X) 3)], .agg #[.int .u64 (wd (Y) 0), .int .u64 (wd (Y) 1), .int .u64 (wd (Y) 2), .int .u64 (wd (Y) 3)]] w fun e w' => e = .returned (.agg #[.int .u64 (wd (D) 0), .int .u64 (wd (D) 1), .int .u64 (wd (D) 2), .int .u64 (wd (D) 3)]) ∧ Below w.heap.size w w' := by
  have hSt : S < top := by rw [← hS]; exact Nat.mod_lt _ top_pos
  have K1 := veil (fun W => kadd X Y S true hS hu hX0 hY0 W)
  clear hS hu hX0 hY0
  have K := veil (fun W => ksub S M D _ hD rfl hSt hM W)
  clear hD
  have hX : (((w.alloc (.cells #[.int .u64 (wd (X) 0), .int .u64 (wd (X) 1), .int .u64 (wd (X) 2), .int .u64 (wd (X) 3)] 24)).alloc (.cells #[.int .u64 (wd (Y) 0), .int .u64 (wd (Y) 1), .int .u64 (wd (Y) 2), .int .u64 (wd (Y) 3)] 24)).alloc (.cells #[.int .u64 0, .int .u64 0, .int .u64 0, .int .u64 0] 24)).rowIs w.heap.size 24 4 (fun j => .int .u64 (wd X j)) := ((row_new (n := 4) (by simp) rfl (arr4 fun j => .int .u64 (wd X j))).alloc _).alloc _
  have hY : (((w.alloc (.cells #[.int .u64 (wd (X) 0), .int .u64 (wd (X) 1), .int .u64 (wd (X) 2), .int .u64 (wd (X) 3)] 24)).alloc (.cells #[.int .u64 (wd (Y) 0), .int .u64 (wd (Y) 1), .int .u64 (wd (Y) 2), .int .u64 (wd (Y) 3)] 24)).alloc (.cells #[.int .u64 0, .int .u64 0, .int .u64 0, .int .u64 0] 24)).rowIs (w.heap.size + 1) 24 4 (fun j => .int .u64 (wd Y j)) := (row_new (n := 4) (by simp) rfl (arr4 fun j => .int .u64 (wd Y j))).alloc _
  have hR : (((w.alloc (.cells #[.int .u64 (wd (X) 0), .int .u64 (wd (X) 1), .int .u64 (wd (X) 2), .int .u64 (wd (X) 3)] 24)).alloc (.cells #[.int .u64 (wd (Y) 0), .int .u64 (wd (Y) 1), .int .u64 (wd (Y) 2), .int .u64 (wd (Y) 3)] 24)).alloc (.cells #[.int .u64 0, .int .u64 0, .int .u64 0, .int .u64 0] 24)).rowIs (w.heap.size + 1 + 1) 24 4 (fun _ => .int .u64 0) := row_new (n := 4) (by simp) rfl (arr4 fun _ => .int .u64 0)
  have hbel : Below w.heap.size w (((w.alloc (.cells #[.int .u64 (wd (X) 0), .int .u64 (wd (X) 1), .int .u64 (wd (X) 2), .int .u64 (wd (X) 3)] 24)).alloc (.cells #[.int .u64 (wd (Y) 0), .int .u64 (wd (Y) 1), .int .u64 (wd (Y) 2), .int .u64 (wd (Y) 3)] 24)).alloc (.cells #[.int .u64 0, .int .u64 0, .int .u64 0, .int .u64 0] 24)) := (((Below.refl _ _).alloc (by simp) _).alloc (by simp) _).alloc (by simp; omega) _
  have hFr : Fb (((w.alloc (.cells #[.int .u64 (wd (X) 0), .int .u64 (wd (X) 1), .int .u64 (wd (X) 2), .int .u64 (wd (X) 3)] 24)).alloc (.cells #[.int .u64 (wd (Y) 0), .int .u64 (wd (Y) 1), .int .u64 (wd (Y) 2), .int .u64 (wd (Y) 3)] 24)).alloc (.cells #[.int .u64 0, .int .u64 0, .int .u64 0, .int .u64 0] 24)) b M N Q := (((hF).alloc _).alloc _).alloc _
  have hbs := hF.lt
  clear hF
  go_enter Tryd.func55, Tryd.ntmps55
  obtain ⟨a0, a1, a2, a3⟩ := row_c4 hX
  obtain ⟨b0, b1, b2, b3⟩ := row_c4 hY
  go_wp2_with fail
  refine (K1.out _).mono ?_
  rintro e w1 ⟨rfl, hb1⟩
  replace hR := row_below (by exact hR) hb1 (by exact hR.lt)
  replace hFr := Fb.below (by exact hFr) hb1 (by exact hFr.lt)
  replace hbel := Below.trans (by first | exact hbel | exact hbel.drew) (hb1.mono (by exact hbel.size))
  clear a0 a1 a2 a3 b0 b1 b2 b3 hX hY hb1
  have hz2 := hR.lt
  have hz3 := hFr.lt
  go_wp2_with fail
  have hT : (w1.alloc (.cells #[.int .u64 (wd (S) 0), .int .u64 (wd (S) 1), .int .u64 (wd (S) 2), .int .u64 (wd (S) 3)] 24)).rowIs w1.heap.size 24 4 (fun j => .int .u64 (wd S j)) := row_new (n := 4) rfl rfl (arr4 fun j => .int .u64 (wd S j))
  replace hR := hR.alloc (.cells #[.int .u64 (wd (S) 0), .int .u64 (wd (S) 1), .int .u64 (wd (S) 2), .int .u64 (wd (S) 3)] 24)
  replace hFr := hFr.alloc (.cells #[.int .u64 (wd (S) 0), .int .u64 (wd (S) 1), .int .u64 (wd (S) 2), .int .u64 (wd (S) 3)] 24)
  have hg1 : w.heap.size + 1 + 1 < w1.heap.size := hz2
  have hg2 : b < w1.heap.size := hz3
  replace hbel := hbel.alloc (by omega) (.cells #[.int .u64 (wd (S) 0), .int .u64 (wd (S) 1), .int .u64 (wd (S) 2), .int .u64 (wd (S) 3)] 24)
  generalize w1.heap.size = g at *
  generalize w1.alloc (.cells #[.int .u64 (wd (S) 0), .int .u64 (wd (S) 1), .int .u64 (wd (S) 2), .int .u64 (wd (S) 3)] 24) = wz at *
  obtain ⟨t0, t1, t2, t3⟩ := row_c4 hT
  obtain ⟨ft0, ft1, ft2, ft3⟩ := row_f4 hT
  obtain ⟨m0, m1, m2, m3⟩ := hFr.mod
  have z1 := hT.lt
  have z2 := hR.lt
  have z3 := hFr.lt
  go_quiet (fail)
  replace hR := row_drewN hR nq
  replace hT := row_drewN hT nq
  replace hFr : Fb (wz.drewN nq) b M N Q := row_drewN hFr nq
  replace hbel := below_drewN hbel nq
  clear t0 t1 t2 t3 ft0 ft1 ft2 ft3 m0 m1 m2 m3
  clear z1 z2 z3
  generalize wz.drewN nq = wy at *
  obtain ⟨t0, t1, t2, t3⟩ := row_c4 hT
  obtain ⟨ft0, ft1, ft2, ft3⟩ := row_f4 hT
  obtain ⟨m0, m1, m2, m3⟩ := hFr.mod
  have z1 := hT.lt
  have z2 := hR.lt
  have z3 := hFr.lt
  go_wp2_with fail
  go_region_with (go_at_call 68; refine (K.out _).mono ?_; rintro e wq ⟨rfl, hbq⟩; replace hT := row_below (by exact hT) hbq (by exact hT.lt); replace hR := row_below (by exact hR) hbq (by exact hR.lt); replace hFr := Fb.below (by exact hFr) hbq (by exact hFr.lt); replace hbel := Below.trans (by first | exact hbel | exact hbel.drew) (hbq.mono (by exact hbel.size)); obtain ⟨q0, q1, q2, q3⟩ := row_c4 hT; obtain ⟨fq0, fq1, fq2, fq3⟩ := row_f4 hT)
  all_goals
    clear t0 t1 t2 t3 ft0 ft1 ft2 ft3 m0 m1 m2 m3 q0 q1 q2 q3 fq0 fq1 fq2 fq3 hbq z1 z2 z3
    replace hR := row_far4 hR (b' := g) (by omega) (.int .u64 (wd (D) 0)) (.int .u64 (wd (D) 1)) (.int .u64 (wd (D) 2)) (.int .u64 (wd (D) 3))
    replace hFr : Fb _ b M N Q := row_far4 hFr (b' := g) (by omega) (.int .u64 (wd (D) 0)) (.int .u64 (wd (D) 1)) (.int .u64 (wd (D) 2)) (.int .u64 (wd (D) 3))
    replace hT := put4 hT (fun j => .int .u64 (wd (D) j))
    replace hbel := below_put4 (b := g) hbel (by omega) (.int .u64 (wd (D) 0)) (.int .u64 (wd (D) 1)) (.int .u64 (wd (D) 2)) (.int .u64 (wd (D) 3))
    generalize ((((wq.setCell ⟨g, 0, none⟩ (.int .u64 (wd (D) 0))).setCell ⟨g, 1, none⟩ (.int .u64 (wd (D) 1))).setCell ⟨g, 2, none⟩ (.int .u64 (wd (D) 2))).setCell ⟨g, 3, none⟩ (.int .u64 (wd (D) 3))) = wp at *
    clear hFr
    obtain ⟨t0, t1, t2, t3⟩ := row_c4 hT
    obtain ⟨f0, f1, f2, f3⟩ := row_f4 hR
    obtain ⟨d0, d1, d2, d3⟩ := row_c4 hR
    go_wp2
    refine bodyPost_ret (results_cell_row rfl _ _ (w.heap.size + 1 + 1) 24 #[.int .u64 (wd (D) 0), .int .u64 (wd (D) 1), .int .u64 (wd (D) 2), .int .u64 (wd (D) 3)] (0, 0) _ rfl (blk4 (put4 hR fun j => .int .u64 (wd (D) j))) Tryd.underlying24 rfl (by kernel_rfl)) rfl ⟨rfl, below_put4 hbel (by omega) _ _ _ _⟩

set_option maxRecDepth 100000 in
set_option maxHeartbeats 8000000 in
theorem fadd_less (b X Y M : Nat) (N : Int) (Q : Nat) (S : Nat) (hX0 : X < top) (hY0 : Y < top) (hM : M < top) (hS : (X + Y) % top = S) (hu : decide (top ≤ X + Y) = false) (hl : S < M) (w : World) (hF : Fb w b M N Q) :
    Calls Tryd.prog 55 #[.pointer (some ⟨b, 0, none⟩), .agg #[.int .u64 (wd (X) 0), .int .u64 (wd (X) 1), .int .u64 (wd (X) 2), .int .u64 (wd (X) 3)], .agg #[.int .u64 (wd (Y) 0), .int .u64 (wd (Y) 1), .int .u64 (wd (Y) 2), .int .u64 (wd (Y) 3)]] w fun e w' => e = .returned (.agg #[.int .u64 (wd (S) 0), .int .u64 (wd (S) 1), .int .u64 (wd (S) 2), .int .u64 (wd (S) 3)]) ∧ Below w.heap.size w w' := by
  have hSt : S < top := by rw [← hS]; exact Nat.mod_lt _ top_pos
  have K1 := veil (fun W => kadd X Y S false hS hu hX0 hY0 W)
  clear hS hu hX0 hY0
  obtain ⟨c, hc⟩ : ∃ c, c = cmpN S M := ⟨_, rfl⟩
  have hcn : c = -1 := by rw [hc]; unfold cmpN; rw [if_pos hl]
  have KC := veil (fun W => kcmp S M c hc.symm hSt hM W)
  subst hcn
  clear hc hl
  have hX : (((w.alloc (.cells #[.int .u64 (wd (X) 0), .int .u64 (wd (X) 1), .int .u64 (wd (X) 2), .int .u64 (wd (X) 3)] 24)).alloc (.cells #[.int .u64 (wd (Y) 0), .int .u64 (wd (Y) 1), .int .u64 (wd (Y) 2), .int .u64 (wd (Y) 3)] 24)).alloc (.cells #[.int .u64 0, .int .u64 0, .int .u64 0, .int .u64 0] 24)).rowIs w.heap.size 24 4 (fun j => .int .u64 (wd X j)) := ((row_new (n := 4) (by simp) rfl (arr4 fun j => .int .u64 (wd X j))).alloc _).alloc _
  have hY : (((w.alloc (.cells #[.int .u64 (wd (X) 0), .int .u64 (wd (X) 1), .int .u64 (wd (X) 2), .int .u64 (wd (X) 3)] 24)).alloc (.cells #[.int .u64 (wd (Y) 0), .int .u64 (wd (Y) 1), .int .u64 (wd (Y) 2), .int .u64 (wd (Y) 3)] 24)).alloc (.cells #[.int .u64 0, .int .u64 0, .int .u64 0, .int .u64 0] 24)).rowIs (w.heap.size + 1) 24 4 (fun j => .int .u64 (wd Y j)) := (row_new (n := 4) (by simp) rfl (arr4 fun j => .int .u64 (wd Y j))).alloc _
  have hR : (((w.alloc (.cells #[.int .u64 (wd (X) 0), .int .u64 (wd (X) 1), .int .u64 (wd (X) 2), .int .u64 (wd (X) 3)] 24)).alloc (.cells #[.int .u64 (wd (Y) 0), .int .u64 (wd (Y) 1), .int .u64 (wd (Y) 2), .int .u64 (wd (Y) 3)] 24)).alloc (.cells #[.int .u64 0, .int .u64 0, .int .u64 0, .int .u64 0] 24)).rowIs (w.heap.size + 1 + 1) 24 4 (fun _ => .int .u64 0) := row_new (n := 4) (by simp) rfl (arr4 fun _ => .int .u64 0)
  have hbel : Below w.heap.size w (((w.alloc (.cells #[.int .u64 (wd (X) 0), .int .u64 (wd (X) 1), .int .u64 (wd (X) 2), .int .u64 (wd (X) 3)] 24)).alloc (.cells #[.int .u64 (wd (Y) 0), .int .u64 (wd (Y) 1), .int .u64 (wd (Y) 2), .int .u64 (wd (Y) 3)] 24)).alloc (.cells #[.int .u64 0, .int .u64 0, .int .u64 0, .int .u64 0] 24)) := (((Below.refl _ _).alloc (by simp) _).alloc (by simp) _).alloc (by simp; omega) _
  have hFr : Fb (((w.alloc (.cells #[.int .u64 (wd (X) 0), .int .u64 (wd (X) 1), .int .u64 (wd (X) 2), .int .u64 (wd (X) 3)] 24)).alloc (.cells #[.int .u64 (wd (Y) 0), .int .u64 (wd (Y) 1), .int .u64 (wd (Y) 2), .int .u64 (wd (Y) 3)] 24)).alloc (.cells #[.int .u64 0, .int .u64 0, .int .u64 0, .int .u64 0] 24)) b M N Q := (((hF).alloc _).alloc _).alloc _
  have hbs := hF.lt
  clear hF
  go_enter Tryd.func55, Tryd.ntmps55
  obtain ⟨a0, a1, a2, a3⟩ := row_c4 hX
  obtain ⟨b0, b1, b2, b3⟩ := row_c4 hY
  go_wp2_with fail
  refine (K1.out _).mono ?_
  rintro e w1 ⟨rfl, hb1⟩
  replace hR := row_below (by exact hR) hb1 (by exact hR.lt)
  replace hFr := Fb.below (by exact hFr) hb1 (by exact hFr.lt)
  replace hbel := Below.trans (by first | exact hbel | exact hbel.drew) (hb1.mono (by exact hbel.size))
  clear a0 a1 a2 a3 b0 b1 b2 b3 hX hY hb1
  have hz2 := hR.lt
  have hz3 := hFr.lt
  go_wp2_with fail
  have hT : (w1.alloc (.cells #[.int .u64 (wd (S) 0), .int .u64 (wd (S) 1), .int .u64 (wd (S) 2), .int .u64 (wd (S) 3)] 24)).rowIs w1.heap.size 24 4 (fun j => .int .u64 (wd S j)) := row_new (n := 4) rfl rfl (arr4 fun j => .int .u64 (wd S j))
  replace hR := hR.alloc (.cells #[.int .u64 (wd (S) 0), .int .u64 (wd (S) 1), .int .u64 (wd (S) 2), .int .u64 (wd (S) 3)] 24)
  replace hFr := hFr.alloc (.cells #[.int .u64 (wd (S) 0), .int .u64 (wd (S) 1), .int .u64 (wd (S) 2), .int .u64 (wd (S) 3)] 24)
  have hg1 : w.heap.size + 1 + 1 < w1.heap.size := hz2
  have hg2 : b < w1.heap.size := hz3
  replace hbel := hbel.alloc (by omega) (.cells #[.int .u64 (wd (S) 0), .int .u64 (wd (S) 1), .int .u64 (wd (S) 2), .int .u64 (wd (S) 3)] 24)
  generalize w1.heap.size = g at *
  generalize w1.alloc (.cells #[.int .u64 (wd (S) 0), .int .u64 (wd (S) 1), .int .u64 (wd (S) 2), .int .u64 (wd (S) 3)] 24) = wz at *
  obtain ⟨t0, t1, t2, t3⟩ := row_c4 hT
  obtain ⟨ft0, ft1, ft2, ft3⟩ := row_f4 hT
  obtain ⟨m0, m1, m2, m3⟩ := hFr.mod
  have z1 := hT.lt
  have z2 := hR.lt
  have z3 := hFr.lt
  go_region_with (go_at_call 24; refine (KC.out _).mono ?_; rintro e wm ⟨rfl, hbm⟩; replace hT := row_below (by exact hT) hbm (by exact hT.lt); replace hR := row_below (by exact hR) hbm (by exact hR.lt); replace hFr := Fb.below (by exact hFr) hbm (by exact hFr.lt); replace hbel := Below.trans (by first | exact hbel | exact hbel.drew) (hbm.mono (by exact hbel.size)))
  all_goals
    clear t0 t1 t2 t3 ft0 ft1 ft2 ft3 m0 m1 m2 m3
    clear z1 z2 z3 hbm
    obtain ⟨t0, t1, t2, t3⟩ := row_c4 hT
    obtain ⟨f0, f1, f2, f3⟩ := row_f4 hR
    obtain ⟨d0, d1, d2, d3⟩ := row_c4 hR
    go_wp2
    refine bodyPost_ret (results_cell_row rfl _ _ (w.heap.size + 1 + 1) 24 #[.int .u64 (wd (S) 0), .int .u64 (wd (S) 1), .int .u64 (wd (S) 2), .int .u64 (wd (S) 3)] (0, 0) _ rfl (blk4 (put4 hR fun j => .int .u64 (wd (S) j))) Tryd.underlying24 rfl (by kernel_rfl)) rfl ⟨rfl, below_put4 hbel (by omega) _ _ _ _⟩

set_option maxRecDepth 100000 in
set_option maxHeartbeats 8000000 in
theorem fadd_more (b X Y M : Nat) (N : Int) (Q : Nat) (S : Nat) (hX0 : X < top) (hY0 : Y < top) (hM : M < top) (hS : (X + Y) % top = S) (hu : decide (top ≤ X + Y) = false) (hl : ¬ S < M) (D : Nat) (hD : (S + top - M) % top = D) (w : World) (hF : Fb w b M N Q) :
    Calls Tryd.prog 55 #[.pointer (some ⟨b, 0, none⟩), .agg #[.int .u64 (wd (X) 0), .int .u64 (wd (X) 1), .int .u64 (wd (X) 2), .int .u64 (wd (X) 3)], .agg #[.int .u64 (wd (Y) 0), .int .u64 (wd (Y) 1), .int .u64 (wd (Y) 2), .int .u64 (wd (Y) 3)]] w fun e w' => e = .returned (.agg #[.int .u64 (wd (D) 0), .int .u64 (wd (D) 1), .int .u64 (wd (D) 2), .int .u64 (wd (D) 3)]) ∧ Below w.heap.size w w' := by
  have hSt : S < top := by rw [← hS]; exact Nat.mod_lt _ top_pos
  have K1 := veil (fun W => kadd X Y S false hS hu hX0 hY0 W)
  clear hS hu hX0 hY0
  obtain ⟨c, hc⟩ : ∃ c, c = cmpN S M := ⟨_, rfl⟩
  have hcn : 0 ≤ c := by rw [hc, cmp_ge]; exact hl
  have KC := veil (fun W => kcmp S M c hc.symm hSt hM W)
  have K := veil (fun W => ksub S M D _ hD rfl hSt hM W)
  clear hc hl hD
  have hX : (((w.alloc (.cells #[.int .u64 (wd (X) 0), .int .u64 (wd (X) 1), .int .u64 (wd (X) 2), .int .u64 (wd (X) 3)] 24)).alloc (.cells #[.int .u64 (wd (Y) 0), .int .u64 (wd (Y) 1), .int .u64 (wd (Y) 2), .int .u64 (wd (Y) 3)] 24)).alloc (.cells #[.int .u64 0, .int .u64 0, .int .u64 0, .int .u64 0] 24)).rowIs w.heap.size 24 4 (fun j => .int .u64 (wd X j)) := ((row_new (n := 4) (by simp) rfl (arr4 fun j => .int .u64 (wd X j))).alloc _).alloc _
  have hY : (((w.alloc (.cells #[.int .u64 (wd (X) 0), .int .u64 (wd (X) 1), .int .u64 (wd (X) 2), .int .u64 (wd (X) 3)] 24)).alloc (.cells #[.int .u64 (wd (Y) 0), .int .u64 (wd (Y) 1), .int .u64 (wd (Y) 2), .int .u64 (wd (Y) 3)] 24)).alloc (.cells #[.int .u64 0, .int .u64 0, .int .u64 0, .int .u64 0] 24)).rowIs (w.heap.size + 1) 24 4 (fun j => .int .u64 (wd Y j)) := (row_new (n := 4) (by simp) rfl (arr4 fun j => .int .u64 (wd Y j))).alloc _
  have hR : (((w.alloc (.cells #[.int .u64 (wd (X) 0), .int .u64 (wd (X) 1), .int .u64 (wd (X) 2), .int .u64 (wd (X) 3)] 24)).alloc (.cells #[.int .u64 (wd (Y) 0), .int .u64 (wd (Y) 1), .int .u64 (wd (Y) 2), .int .u64 (wd (Y) 3)] 24)).alloc (.cells #[.int .u64 0, .int .u64 0, .int .u64 0, .int .u64 0] 24)).rowIs (w.heap.size + 1 + 1) 24 4 (fun _ => .int .u64 0) := row_new (n := 4) (by simp) rfl (arr4 fun _ => .int .u64 0)
  have hbel : Below w.heap.size w (((w.alloc (.cells #[.int .u64 (wd (X) 0), .int .u64 (wd (X) 1), .int .u64 (wd (X) 2), .int .u64 (wd (X) 3)] 24)).alloc (.cells #[.int .u64 (wd (Y) 0), .int .u64 (wd (Y) 1), .int .u64 (wd (Y) 2), .int .u64 (wd (Y) 3)] 24)).alloc (.cells #[.int .u64 0, .int .u64 0, .int .u64 0, .int .u64 0] 24)) := (((Below.refl _ _).alloc (by simp) _).alloc (by simp) _).alloc (by simp; omega) _
  have hFr : Fb (((w.alloc (.cells #[.int .u64 (wd (X) 0), .int .u64 (wd (X) 1), .int .u64 (wd (X) 2), .int .u64 (wd (X) 3)] 24)).alloc (.cells #[.int .u64 (wd (Y) 0), .int .u64 (wd (Y) 1), .int .u64 (wd (Y) 2), .int .u64 (wd (Y) 3)] 24)).alloc (.cells #[.int .u64 0, .int .u64 0, .int .u64 0, .int .u64 0] 24)) b M N Q := (((hF).alloc _).alloc _).alloc _
  have hbs := hF.lt
  clear hF
  go_enter Tryd.func55, Tryd.ntmps55
  obtain ⟨a0, a1, a2, a3⟩ := row_c4 hX
  obtain ⟨b0, b1, b2, b3⟩ := row_c4 hY
  go_wp2_with fail
  refine (K1.out _).mono ?_
  rintro e w1 ⟨rfl, hb1⟩
  replace hR := row_below (by exact hR) hb1 (by exact hR.lt)
  replace hFr := Fb.below (by exact hFr) hb1 (by exact hFr.lt)
  replace hbel := Below.trans (by first | exact hbel | exact hbel.drew) (hb1.mono (by exact hbel.size))
  clear a0 a1 a2 a3 b0 b1 b2 b3 hX hY hb1
  have hz2 := hR.lt
  have hz3 := hFr.lt
  go_wp2_with fail
  have hT : (w1.alloc (.cells #[.int .u64 (wd (S) 0), .int .u64 (wd (S) 1), .int .u64 (wd (S) 2), .int .u64 (wd (S) 3)] 24)).rowIs w1.heap.size 24 4 (fun j => .int .u64 (wd S j)) := row_new (n := 4) rfl rfl (arr4 fun j => .int .u64 (wd S j))
  replace hR := hR.alloc (.cells #[.int .u64 (wd (S) 0), .int .u64 (wd (S) 1), .int .u64 (wd (S) 2), .int .u64 (wd (S) 3)] 24)
  replace hFr := hFr.alloc (.cells #[.int .u64 (wd (S) 0), .int .u64 (wd (S) 1), .int .u64 (wd (S) 2), .int .u64 (wd (S) 3)] 24)
  have hg1 : w.heap.size + 1 + 1 < w1.heap.size := hz2
  have hg2 : b < w1.heap.size := hz3
  replace hbel := hbel.alloc (by omega) (.cells #[.int .u64 (wd (S) 0), .int .u64 (wd (S) 1), .int .u64 (wd (S) 2), .int .u64 (wd (S) 3)] 24)
  generalize w1.heap.size = g at *
  generalize w1.alloc (.cells #[.int .u64 (wd (S) 0), .int .u64 (wd (S) 1), .int .u64 (wd (S) 2), .int .u64 (wd (S) 3)] 24) = wz at *
  obtain ⟨t0, t1, t2, t3⟩ := row_c4 hT
  obtain ⟨ft0, ft1, ft2, ft3⟩ := row_f4 hT
  obtain ⟨m0, m1, m2, m3⟩ := hFr.mod
  have z1 := hT.lt
  have z2 := hR.lt
  have z3 := hFr.lt
  go_region_with (go_at_call 24; refine (KC.out _).mono ?_; rintro e wm ⟨rfl, hbm⟩; replace hT := row_below (by exact hT) hbm (by exact hT.lt); replace hR := row_below (by exact hR) hbm (by exact hR.lt); replace hFr := Fb.below (by exact hFr) hbm (by exact hFr.lt); replace hbel := Below.trans (by first | exact hbel | exact hbel.drew) (hbm.mono (by exact hbel.size)))
  all_goals
    clear t0 t1 t2 t3 ft0 ft1 ft2 ft3 m0 m1 m2 m3
    clear z1 z2 z3 hbm
    obtain ⟨t0, t1, t2, t3⟩ := row_c4 hT
    obtain ⟨ft0, ft1, ft2, ft3⟩ := row_f4 hT
    obtain ⟨m0, m1, m2, m3⟩ := hFr.mod
    have z1 := hT.lt
    have z2 := hR.lt
    have z3 := hFr.lt
    go_wp2_with fail
    go_region_with (go_at_call 68; refine (K.out _).mono ?_; rintro e wq ⟨rfl, hbq⟩; replace hT := row_below (by exact hT) hbq (by exact hT.lt); replace hR := row_below (by exact hR) hbq (by exact hR.lt); replace hFr := Fb.below (by exact hFr) hbq (by exact hFr.lt); replace hbel := Below.trans (by first | exact hbel | exact hbel.drew) (hbq.mono (by exact hbel.size)); obtain ⟨q0, q1, q2, q3⟩ := row_c4 hT; obtain ⟨fq0, fq1, fq2, fq3⟩ := row_f4 hT)
    all_goals
      clear t0 t1 t2 t3 ft0 ft1 ft2 ft3 m0 m1 m2 m3 q0 q1 q2 q3 fq0 fq1 fq2 fq3 hbq z1 z2 z3
      replace hR := row_far4 hR (b' := g) (by omega) (.int .u64 (wd (D) 0)) (.int .u64 (wd (D) 1)) (.int .u64 (wd (D) 2)) (.int .u64 (wd (D) 3))
      replace hFr : Fb _ b M N Q := row_far4 hFr (b' := g) (by omega) (.int .u64 (wd (D) 0)) (.int .u64 (wd (D) 1)) (.int .u64 (wd (D) 2)) (.int .u64 (wd (D) 3))
      replace hT := put4 hT (fun j => .int .u64 (wd (D) j))
      replace hbel := below_put4 (b := g) hbel (by omega) (.int .u64 (wd (D) 0)) (.int .u64 (wd (D) 1)) (.int .u64 (wd (D) 2)) (.int .u64 (wd (D) 3))
      generalize ((((wq.setCell ⟨g, 0, none⟩ (.int .u64 (wd (D) 0))).setCell ⟨g, 1, none⟩ (.int .u64 (wd (D) 1))).setCell ⟨g, 2, none⟩ (.int .u64 (wd (D) 2))).setCell ⟨g, 3, none⟩ (.int .u64 (wd (D) 3))) = wp at *
      clear hFr
      obtain ⟨t0, t1, t2, t3⟩ := row_c4 hT
      obtain ⟨f0, f1, f2, f3⟩ := row_f4 hR
      obtain ⟨d0, d1, d2, d3⟩ := row_c4 hR
      go_wp2
      refine bodyPost_ret (results_cell_row rfl _ _ (w.heap.size + 1 + 1) 24 #[.int .u64 (wd (D) 0), .int .u64 (wd (D) 1), .int .u64 (wd (D) 2), .int .u64 (wd (D) 3)] (0, 0) _ rfl (blk4 (put4 hR fun j => .int .u64 (wd (D) j))) Tryd.underlying24 rfl (by kernel_rfl)) rfl ⟨rfl, below_put4 hbel (by omega) _ _ _ _⟩

/-- (*field.Field).add of two numbers below the modulus. -/
theorem fadd_calls (b X Y M : Nat) (N : Int) (Q Z : Nat) (hX : X < M) (hY : Y < M) (hM : M < top) (hZ : (X + Y) % M = Z) (w : World) (hF : Fb w b M N Q) :
    Calls Tryd.prog 55 #[.pointer (some ⟨b, 0, none⟩), .agg #[.int .u64 (wd (X) 0), .int .u64 (wd (X) 1), .int .u64 (wd (X) 2), .int .u64 (wd (X) 3)], .agg #[.int .u64 (wd (Y) 0), .int .u64 (wd (Y) 1), .int .u64 (wd (Y) 2), .int .u64 (wd (Y) 3)]] w fun e w' => e = .returned (.agg #[.int .u64 (wd (Z) 0), .int .u64 (wd (Z) 1), .int .u64 (wd (Z) 2), .int .u64 (wd (Z) 3)]) ∧ Below w.heap.size w w' := by
  have e := fsum_num hX hY (by omega)
  rw [hZ] at e
  by_cases h : top ≤ X + Y
  · rw [if_pos (Or.inl h)] at e
    exact fadd_over b X Y M N Q _ (by omega) (by omega) hM rfl (by simpa using h) Z e.symm w hF
  · by_cases h2 : (X + Y) % top < M
    · rw [if_neg (by rintro (a | a) <;> contradiction)] at e
      rw [e]
      exact fadd_less b X Y M N Q _ (by omega) (by omega) hM rfl (by simpa using h) h2 w hF
    · rw [if_pos (Or.inr h2)] at e
      exact fadd_more b X Y M N Q _ (by omega) (by omega) hM rfl (by simpa using h) h2 Z e.symm w hF
end Go.Proofs.YthgenmoiendakaaDoor


/-
  field.New: which numbers are a modulus.
-/
namespace Go.Proofs.YthgenmoiendakaaDoor
open Go.RowKit

set_option maxRecDepth 100000 in
theorem wd_odd (X : Nat) : wd X 0 % 2 = ((X % 2 : Nat) : Int) := by
  unfold wd dg w64; rw [Nat.pow_zero, Nat.div_one]; omega
set_option maxRecDepth 100000 in
theorem bit_zero (X : Nat) : bit X 0 = decide (X % 2 = 1) := by
  unfold bit; rw [Nat.pow_zero, Nat.div_one]
  first | rfl | (cases h : decide (X % 2 = 1) <;> simp_all)
set_option maxRecDepth 100000 in
theorem kcmp3 (X : Nat) (c : Int) (h : cmpN X 3 = c) (hX : X < top) (w : World) :
    Calls Tryd.prog 24 #[.agg #[.int .u64 (wd (X) 0), .int .u64 (wd (X) 1), .int .u64 (wd (X) 2), .int .u64 (wd (X) 3)], .agg #[.int .u64 3, .int .u64 0, .int .u64 0, .int .u64 0]] w fun e w' => e = .returned (.int .i64 c) ∧ Below w.heap.size w w' := by
  have h := kcmp X 3 c h hX (by decide) w
  have o0 : wd 3 0 = 3 := by decide
  have o1 : wd 3 1 = 0 := by decide
  have o2 : wd 3 2 = 0 := by decide
  have o3 : wd 3 3 = 0 := by decide
  rw [o0, o1, o2, o3] at h
  exact h
/-- What the square is behind k rounds. -/
def sqk (M k : Nat) : Nat := 2 ^ k % M
set_option maxRecDepth 100000 in
theorem sqk_lt {M k : Nat} (h : 0 < M) : sqk M k < M := Nat.mod_lt _ h
set_option maxRecDepth 100000 in
theorem sqk_step (M k : Nat) : (sqk M k + sqk M k) % M = sqk M (k + 1) := by
  unfold sqk; rw [← Nat.add_mod, Nat.pow_succ, Nat.mul_two]
set_option maxRecDepth 100000 in
theorem sqk_zero {M : Nat} (h : 1 < M) : sqk M 0 = 1 := by unfold sqk; rw [Nat.pow_zero]; exact Nat.mod_eq_of_lt h
set_option maxRecDepth 100000 in
theorem pow_of (a c n : Nat) (h : n = a * c) : 2 ^ n = (2 ^ a) ^ c := by rw [h, Nat.pow_mul]
set_option maxRecDepth 100000 in
theorem sqk_end (M n : Nat) (h : n = 64 * 8) : sqk M n = top8 % M := by
  have e := pow_of 64 8 n h
  rw [← w64_two] at e
  unfold sqk top8; rw [e]
section
variable {w : World} {b M Q : Nat} {N : Int}
set_option maxRecDepth 100000 in
theorem Fb.froz (h : Fb w b M N Q) (i : Nat) : w.frozen? ⟨b, i, none⟩ = false := World.rowIs.frozen h i
set_option maxRecDepth 100000 in
theorem Fb.putsq (h : Fb w b M N Q) (K : Nat) : Fb ((((w.setCell ⟨b, 5, none⟩ (.int .u64 (wd K 0))).setCell ⟨b, 6, none⟩ (.int .u64 (wd K 1))).setCell ⟨b, 7, none⟩ (.int .u64 (wd K 2))).setCell ⟨b, 8, none⟩ (.int .u64 (wd K 3))) b M N K :=
  World.rowIs.congr ((((World.rowIs.set h 5 (.int .u64 (wd K 0))).set 6 (.int .u64 (wd K 1))).set 7 (.int .u64 (wd K 2))).set 8 (.int .u64 (wd K 3))) fun i hi => by
    have : i = 0 ∨ i = 1 ∨ i = 2 ∨ i = 3 ∨ i = 4 ∨ i = 5 ∨ i = 6 ∨ i = 7 ∨ i = 8 := by omega
    rcases this with rfl | rfl | rfl | rfl | rfl | rfl | rfl | rfl | rfl <;> rfl
end

set_option maxRecDepth 100000 in
set_option maxHeartbeats 8000000 in
theorem new_even (M : Nat) (h : M % 2 = 0) (w : World) :
    Calls Tryd.prog 40 #[.agg #[.int .u64 (wd (M) 0), .int .u64 (wd (M) 1), .int .u64 (wd (M) 2), .int .u64 (wd (M) 3)]] w fun e w' => e = .returned (.tuple #[.pointer none, .iface 34 (.int .i64 1)]) ∧ Below w.heap.size w w' := by
  have K1 := veil (fun W => kbit0 M false (by rw [bit_zero, h]; rfl) W)
  clear h
  have hA : (w.alloc (.cells #[.int .u64 (wd (M) 0), .int .u64 (wd (M) 1), .int .u64 (wd (M) 2), .int .u64 (wd (M) 3)] 24)).rowIs w.heap.size 24 4 (fun j => .int .u64 (wd M j)) := row_new (n := 4) (by simp) rfl (arr4 fun j => .int .u64 (wd M j))
  have hbel : Below w.heap.size w (w.alloc (.cells #[.int .u64 (wd (M) 0), .int .u64 (wd (M) 1), .int .u64 (wd (M) 2), .int .u64 (wd (M) 3)] 24)) := (Below.refl _ _).alloc (by simp) _
  go_enter Tryd.func40, Tryd.ntmps40
  obtain ⟨a0, a1, a2, a3⟩ := row_c4 hA
  go_wp2_with fail
  refine (K1.out _).mono ?_
  rintro e w1 ⟨rfl, hb1⟩
  replace hbel := Below.trans (by first | exact hbel | exact hbel.drew) (hb1.mono (by exact hbel.size))
  clear a0 a1 a2 a3 hA hb1
  go_wp2
  go_ret2
  exact ⟨rfl, hbel⟩

set_option maxRecDepth 100000 in
set_option maxHeartbeats 8000000 in
theorem new_low (M : Nat) (h : M % 2 = 1) (hl : M < 3) (hM : M < top) (w : World) :
    Calls Tryd.prog 40 #[.agg #[.int .u64 (wd (M) 0), .int .u64 (wd (M) 1), .int .u64 (wd (M) 2), .int .u64 (wd (M) 3)]] w fun e w' => e = .returned (.tuple #[.pointer none, .iface 34 (.int .i64 1)]) ∧ Below w.heap.size w w' := by
  have K1 := veil (fun W => kbit0 M true (by rw [bit_zero, h]; rfl) W)
  have K2 := veil (fun W => kcmp3 M (-1) (by unfold cmpN; rw [if_pos hl]) hM W)
  clear h hl hM
  have hA : (w.alloc (.cells #[.int .u64 (wd (M) 0), .int .u64 (wd (M) 1), .int .u64 (wd (M) 2), .int .u64 (wd (M) 3)] 24)).rowIs w.heap.size 24 4 (fun j => .int .u64 (wd M j)) := row_new (n := 4) (by simp) rfl (arr4 fun j => .int .u64 (wd M j))
  have hbel : Below w.heap.size w (w.alloc (.cells #[.int .u64 (wd (M) 0), .int .u64 (wd (M) 1), .int .u64 (wd (M) 2), .int .u64 (wd (M) 3)] 24)) := (Below.refl _ _).alloc (by simp) _
  go_enter Tryd.func40, Tryd.ntmps40
  obtain ⟨a0, a1, a2, a3⟩ := row_c4 hA
  go_wp2_with fail
  refine (K1.out _).mono ?_
  rintro e w1 ⟨rfl, hb1⟩
  replace hA := row_below (by exact hA) hb1 (by exact hA.lt)
  replace hbel := Below.trans (by first | exact hbel | exact hbel.drew) (hb1.mono (by exact hbel.size))
  clear a0 a1 a2 a3 hb1
  obtain ⟨a0, a1, a2, a3⟩ := row_c4 hA
  go_wp2_with fail
  refine (K2.out _).mono ?_
  rintro e w2 ⟨rfl, hb2⟩
  replace hbel := Below.trans (by first | exact hbel | exact hbel.drew) (hb2.mono (by exact hbel.size))
  clear a0 a1 a2 a3 hA hb2
  go_wp2
  go_ret2
  exact ⟨rfl, hbel⟩

set_option maxRecDepth 100000 in
set_option maxHeartbeats 8000000 in
theorem new_good (M : Nat) (h : M % 2 = 1) (hl : 2 < M) (hM : M < top) (w : World) :
    Calls Tryd.prog 40 #[.agg #[.int .u64 (wd (M) 0), .int .u64 (wd (M) 1), .int .u64 (wd (M) 2), .int .u64 (wd (M) 3)]] w fun e w' => (∃ (b : Nat) (N : Int) (Q : Nat), Fok M N Q ∧ Fb w' b M N Q ∧ w.heap.size ≤ b ∧ e = .returned (.tuple #[.pointer (some ⟨b, 0, none⟩), .nilIface])) ∧ Below w.heap.size w w' := by
  have K1 := veil (fun W => kbit0 M true (by rw [bit_zero, h]; rfl) W)
  obtain ⟨c, hc⟩ : ∃ c, c = cmpN M 3 := ⟨_, rfl⟩
  have hcn : 0 ≤ c := by rw [hc, cmp_ge]; omega
  have K2 := veil (fun W => kcmp3 M c hc.symm hM W)
  have K3 := veil (fun W => inverse_calls (wd M 0) (wd_lo _ _) (wd_le _ _) (by rw [wd_odd, h]; rfl) W)
  have HM := veil (And.intro h (And.intro hl hM))
  clear h hl hM hc
  have hA : (w.alloc (.cells #[.int .u64 (wd (M) 0), .int .u64 (wd (M) 1), .int .u64 (wd (M) 2), .int .u64 (wd (M) 3)] 24)).rowIs w.heap.size 24 4 (fun j => .int .u64 (wd M j)) := row_new (n := 4) (by simp) rfl (arr4 fun j => .int .u64 (wd M j))
  have hbel : Below w.heap.size w (w.alloc (.cells #[.int .u64 (wd (M) 0), .int .u64 (wd (M) 1), .int .u64 (wd (M) 2), .int .u64 (wd (M) 3)] 24)) := (Below.refl _ _).alloc (by simp) _
  go_enter Tryd.func40, Tryd.ntmps40
  obtain ⟨a0, a1, a2, a3⟩ := row_c4 hA
  go_wp2_with fail
  refine (K1.out _).mono ?_
  rintro e w1 ⟨rfl, hb1⟩
  replace hA := row_below (by exact hA) hb1 (by exact hA.lt)
  replace hbel := Below.trans (by first | exact hbel | exact hbel.drew) (hb1.mono (by exact hbel.size))
  clear a0 a1 a2 a3 hb1
  obtain ⟨a0, a1, a2, a3⟩ := row_c4 hA
  go_wp2_with fail
  refine (K2.out _).mono ?_
  rintro e w2 ⟨rfl, hb2⟩
  replace hA := row_below (by exact hA) hb2 (by exact hA.lt)
  replace hbel := Below.trans (by first | exact hbel | exact hbel.drew) (hb2.mono (by exact hbel.size))
  clear a0 a1 a2 a3 hb2
  obtain ⟨a0, a1, a2, a3⟩ := row_c4 hA
  go_wp2_with fail
  go_region_with (go_at_call 54; refine (K3.out _).mono ?_; rintro e w3 ⟨n, hn0, hn1, hn2, rfl, rfl⟩)
  all_goals go_wp2_with fail
  all_goals
    clear a0 a1 a2 a3
    have hFr : Fb (w2.alloc (.cells #[.int .u64 (wd M 0), .int .u64 (wd M 1), .int .u64 (wd M 2), .int .u64 (wd M 3), .int .u64 n, .int .u64 1, .int .u64 0, .int .u64 0, .int .u64 0] 91)).drew w2.heap.size M n 1 :=
      row_new (n := 9) rfl rfl (fun i hi => by match i, hi with | 0, _ => rfl | 1, _ => rfl | 2, _ => rfl | 3, _ => rfl | 4, _ => rfl | 5, _ => rfl | 6, _ => rfl | 7, _ => rfl | 8, _ => rfl)
    have hgw : w.heap.size ≤ w2.heap.size := hbel.size
    replace hbel := (hbel.alloc hgw (.cells #[.int .u64 (wd M 0), .int .u64 (wd M 1), .int .u64 (wd M 2), .int .u64 (wd M 3), .int .u64 n, .int .u64 1, .int .u64 0, .int .u64 0, .int .u64 0] 91)).drew
    clear hA
    have HN := veil hn2
    clear hn2
    generalize w2.heap.size = g at *
    generalize (w2.alloc (.cells #[.int .u64 (wd M 0), .int .u64 (wd M 1), .int .u64 (wd M 2), .int .u64 (wd M 3), .int .u64 n, .int .u64 1, .int .u64 0, .int .u64 0, .int .u64 0] 91)).drew = w4 at *
    go_loopw [22] (fun i wr => ∃ k : Nat, k ≤ 512 ∧ i = .int .i64 (k : Int) ∧ Fb wr g M n (sqk M k) ∧ Below w.heap.size w wr)
      (fun i _ => 512 - (intOf i).toNat)
    case atStart => exact ⟨0, by omega, rfl, by rw [sqk_zero (by have := HM.out.2.1; omega)]; exact hFr, hbel⟩
    case round =>
      clear hFr hbel
      obtain ⟨k, hk, rfl, hFr, hbel⟩ := hrel
      by_cases hlt : k < 512
      · have hki : (k : Int) ≤ 511 := by omega
        have hq := sqk_lt (M := M) (k := k) (by have := HM.out.2.1; omega)
        have K := veil (fun W (h : Fb W g M n (sqk M k)) => fadd_calls g _ _ M n _ _ hq hq HM.out.2.2 (sqk_step M k) W h)
        clear hq
        obtain ⟨q', hq'⟩ : ∃ q', q' = sqk M (k + 1) := ⟨_, rfl⟩
        rw [← hq'] at K
        have HQ := veil hq'
        clear hq' hlt
        generalize sqk M k = q at *
        obtain ⟨s0, s1, s2, s3⟩ := hFr.sq
        have f5 := hFr.froz 5
        have f6 := hFr.froz 6
        have f7 := hFr.froz 7
        have f8 := hFr.froz 8
        go_wp2_with fail
        go_region_with (go_at_call 55; refine (K.out _ (by exact hFr)).mono ?_; rintro e w5 ⟨rfl, hb5⟩; replace hFr := Fb.below (by exact hFr) hb5 (by exact hFr.lt); replace hbel := Below.trans (by first | exact hbel | exact hbel.drew) (hb5.mono (by exact hbel.size)); obtain ⟨s0, s1, s2, s3⟩ := hFr.sq; have f5 := hFr.froz 5; have f6 := hFr.froz 6; have f7 := hFr.froz 7; have f8 := hFr.froz 8)
        all_goals
          go_wp2
          go_roundw
          case rel => exact ⟨k + 1, by omega, by go_num, by rw [← HQ.out]; exact hFr.putsq q', below_set (below_set (below_set (below_set hbel hgw _) hgw _) hgw _) hgw _⟩
          case measure => simp [intOf]; omega
      · obtain rfl : k = 512 := by omega
        go_wp2
        go_ret2
        exact ⟨⟨g, n, _, ⟨HM.out.2.1, HM.out.1, HM.out.2.2, hn0, hn1, HN.out, sqk_end M 512 (by decide)⟩, hFr, hgw, rfl⟩, hbel⟩

end Go.Proofs.YthgenmoiendakaaDoor
