/-
  Merged: Math Mem Parts Top Add Sub Cmp RCmp Eql Bit Of Bytes Row Own Cut.
-/
import Derived.WalkKit
import Derived.Deep.OwnRows
import Derived.Deep.Draws
import Derived.Laws.Rows
import Derived.Deep.QuietTactic
import Derived.WalkSpells
import Derived.WalkLawsBesides
import Derived.Deep.LoopGhost
import Derived.Deep.RegionWith
import Derived.BigQuiet
import Derived.ChangeKeysEq
import Derived.BigRegion
import Derived.Deep.MidRow
import Derived.Deep.WholeRow
import Derived.OwnWalk
import Derived.RegionTactic
import Derived.Deep.AppendLies
import Derived.Maps.AppendAt
import Derived.Test.YthgenmoiendakaaDoorRows

/-
  The digits of a number in a base, and what sums, differences and products do to them. No Go in sight.
-/
namespace Go.Proofs.YthgenmoiendakaaDoor

/-- Digit i of n in base B. -/
def dg (B n i : Nat) : Nat := n / B ^ i % B

/-- What goes over ahead of digit i when X and Y are added. -/
def cy (B X Y i : Nat) : Nat := (X % B ^ i + Y % B ^ i) / B ^ i

/-- What is borrowed ahead of digit i when Y is taken from X. -/
def bw (B X Y i : Nat) : Nat := if X % B ^ i < Y % B ^ i then 1 else 0

theorem dg_lt {B : Nat} (hB : 0 < B) (n i : Nat) : dg B n i < B := Nat.mod_lt _ hB

theorem mod_succ (B n i : Nat) : n % B ^ (i + 1) = n % B ^ i + B ^ i * dg B n i := by
  rw [Nat.pow_succ, Nat.mod_mul, dg]

theorem cy_zero (B X Y : Nat) : cy B X Y 0 = 0 := by simp [cy, Nat.mod_one]

theorem cy_le {B : Nat} (hB : 0 < B) (X Y i : Nat) : cy B X Y i ≤ 1 := by
  have hp : 0 < B ^ i := Nat.pow_pos hB
  have h1 := Nat.mod_lt X hp
  have h2 := Nat.mod_lt Y hp
  unfold cy
  have : (X % B ^ i + Y % B ^ i) / B ^ i < 2 := (Nat.div_lt_iff_lt_mul hp).2 (by omega)
  omega

theorem cy_succ {B : Nat} (hB : 0 < B) (X Y i : Nat) : cy B X Y (i + 1) = (dg B X i + dg B Y i + cy B X Y i) / B := by
  have hp : 0 < B ^ i := Nat.pow_pos hB
  unfold cy
  rw [mod_succ, mod_succ]
  rw [show X % B ^ i + B ^ i * dg B X i + (Y % B ^ i + B ^ i * dg B Y i) = (X % B ^ i + Y % B ^ i) + B ^ i * (dg B X i + dg B Y i) by rw [Nat.mul_add]; omega]
  rw [Nat.pow_succ, ← Nat.div_div_eq_div_mul, Nat.add_mul_div_left _ _ hp]
  congr 1
  omega

theorem dg_add {B : Nat} (hB : 0 < B) (X Y i : Nat) : dg B (X + Y) i = (dg B X i + dg B Y i + cy B X Y i) % B := by
  have hp : 0 < B ^ i := Nat.pow_pos hB
  have hX : X = X % B ^ i + B ^ i * (X / B ^ i) := (Nat.mod_add_div _ _).symm
  have hY : Y = Y % B ^ i + B ^ i * (Y / B ^ i) := (Nat.mod_add_div _ _).symm
  have hs : (X + Y) / B ^ i = (X % B ^ i + Y % B ^ i) / B ^ i + (X / B ^ i + Y / B ^ i) := by
    conv => lhs; rw [hX, hY]
    rw [show X % B ^ i + B ^ i * (X / B ^ i) + (Y % B ^ i + B ^ i * (Y / B ^ i)) = (X % B ^ i + Y % B ^ i) + B ^ i * (X / B ^ i + Y / B ^ i) by rw [Nat.mul_add]; omega]
    rw [Nat.add_mul_div_left _ _ hp]
  unfold dg cy
  rw [hs, show (X % B ^ i + Y % B ^ i) / B ^ i + (X / B ^ i + Y / B ^ i) = X / B ^ i + Y / B ^ i + (X % B ^ i + Y % B ^ i) / B ^ i by omega]
  rw [Nat.add_mod, Nat.add_mod (X / B ^ i) (Y / B ^ i)]
  conv => rhs; rw [Nat.add_mod]

/-- The carry out of n digits of numbers that have n: 1 just if the sum is B^n at least. -/
theorem cy_top {B : Nat} {X Y n : Nat} (hX : X < B ^ n) (hY : Y < B ^ n) : cy B X Y n = if B ^ n ≤ X + Y then 1 else 0 := by
  unfold cy
  rw [Nat.mod_eq_of_lt hX, Nat.mod_eq_of_lt hY]
  have hp : 0 < B ^ n := by omega
  split
  · apply Nat.le_antisymm
    · have := (Nat.div_lt_iff_lt_mul hp (x := X + Y) (y := 2)).2 (by omega)
      omega
    · exact (Nat.le_div_iff_mul_le hp).2 (by omega)
  · exact Nat.div_eq_of_lt (by omega)

theorem dg_mod {B : Nat} (n m i : Nat) (h : i < m) : dg B (n % B ^ m) i = dg B n i := by
  unfold dg
  obtain ⟨d, rfl⟩ : ∃ d, m = i + (d + 1) := ⟨m - i - 1, by omega⟩
  rw [Nat.pow_add, Nat.mod_mul_right_div_self, Nat.mod_mod_of_dvd _ (by rw [Nat.pow_succ]; exact Nat.dvd_mul_left _ _)]

theorem eq_of_dg {B : Nat} (hB : 0 < B) : ∀ (n : Nat) {X Y : Nat}, (∀ i, i < n → dg B X i = dg B Y i) → X % B ^ n = Y % B ^ n
  | 0, X, Y, _ => by simp [Nat.mod_one]
  | n + 1, X, Y, h => by rw [mod_succ, mod_succ, eq_of_dg hB n (fun i hi => h i (by omega)), h n (by omega)]

theorem eq_of_dg_lt {B : Nat} (hB : 0 < B) {n X Y : Nat} (hX : X < B ^ n) (hY : Y < B ^ n) (h : ∀ i, i < n → dg B X i = dg B Y i) : X = Y := by
  have := eq_of_dg hB n h
  rwa [Nat.mod_eq_of_lt hX, Nat.mod_eq_of_lt hY] at this

theorem bw_zero (B X Y : Nat) : bw B X Y 0 = 0 := by simp [bw, Nat.mod_one]
theorem bw_le (B X Y i : Nat) : bw B X Y i ≤ 1 := by unfold bw; split <;> omega

theorem bw_succ {B : Nat} (hB : 0 < B) (X Y i : Nat) : bw B X Y (i + 1) = if dg B X i < dg B Y i + bw B X Y i then 1 else 0 := by
  have hp : 0 < B ^ i := Nat.pow_pos hB
  have h1 := Nat.mod_lt X hp
  have h2 := Nat.mod_lt Y hp
  unfold bw
  rw [mod_succ, mod_succ]
  generalize dg B X i = x
  generalize dg B Y i = y
  generalize X % B ^ i = r at *
  generalize Y % B ^ i = s at *
  generalize B ^ i = P at *
  by_cases hxy : x < y
  · have : P * x + P ≤ P * y := by rw [← Nat.mul_succ]; exact Nat.mul_le_mul_left _ hxy
    rw [if_pos (by omega)]; split <;> rw [if_pos (by omega)]
  · by_cases hyx : y < x
    · have : P * y + P ≤ P * x := by rw [← Nat.mul_succ]; exact Nat.mul_le_mul_left _ hyx
      rw [if_neg (by omega)]; split <;> rw [if_neg (by omega)]
    · have hxy' : x = y := by omega
      subst hxy'
      by_cases hrs : r < s
      · rw [if_pos (by omega), if_pos hrs, if_pos (by omega)]
      · rw [if_neg (by omega), if_neg hrs, if_neg (by omega)]

/-- Digit i of what is left, modulo B^n, when Y is taken from X. -/
theorem dg_sub {B : Nat} (hB : 0 < B) (X Y n i : Nat) (hi : i < n) (hY : Y ≤ B ^ n) : dg B (X + B ^ n - Y) i = (dg B X i + B - dg B Y i - bw B X Y i) % B := by
  obtain ⟨D, hD⟩ : ∃ D, X + B ^ n - Y = D := ⟨_, rfl⟩
  rw [hD]
  have hDY : D + Y = X + B ^ n := by omega
  -- the digit of the sum D + Y
  have h1 := dg_add hB D Y i
  have h2 : dg B (D + Y) i = dg B X i := by
    rw [hDY]
    unfold dg
    obtain ⟨d, rfl⟩ : ∃ d, n = i + (d + 1) := ⟨n - i - 1, by omega⟩
    rw [Nat.pow_add, Nat.add_mul_div_left _ _ (Nat.pow_pos hB), Nat.pow_succ, Nat.add_mul_mod_self_right]
  have h3 : cy B D Y i = bw B X Y i := by
    have hp : 0 < B ^ i := Nat.pow_pos hB
    have e : (D + Y) % B ^ i = X % B ^ i := by
      rw [hDY]
      obtain ⟨d, rfl⟩ : ∃ d, n = i + (d + 1) := ⟨n - i - 1, by omega⟩
      rw [Nat.pow_add, Nat.add_mul_mod_self_left]
    rw [Nat.add_mod] at e
    have hd := Nat.mod_lt D hp
    have hy := Nat.mod_lt Y hp
    unfold cy bw
    rw [← e]
    generalize D % B ^ i = r at *
    generalize Y % B ^ i = s at *
    by_cases h : r + s < B ^ i
    · rw [Nat.mod_eq_of_lt h, Nat.div_eq_of_lt h, if_neg (by omega)]
    · rw [Nat.mod_eq_sub_mod (by omega), Nat.mod_eq_of_lt (by omega), if_pos (by omega)]
      apply Nat.le_antisymm
      · have := (Nat.div_lt_iff_lt_mul hp (x := r + s) (y := 2)).2 (by omega)
        omega
      · exact (Nat.le_div_iff_mul_le hp).2 (by omega)
  rw [h2, h3] at h1
  have b1 := dg_lt hB D i
  have b2 := dg_lt hB Y i
  have b3 := bw_le B X Y i
  have b4 := dg_lt hB X i
  generalize dg B D i = d at *
  generalize dg B Y i = y at *
  generalize dg B X i = x at *
  generalize bw B X Y i = b at *
  by_cases h : d + y + b < B
  · rw [Nat.mod_eq_of_lt h] at h1
    rw [Nat.mod_eq_sub_mod (by omega), Nat.mod_eq_of_lt (by omega)]
    omega
  · rw [Nat.mod_eq_sub_mod (by omega), Nat.mod_eq_of_lt (by omega)] at h1
    rw [Nat.mod_eq_of_lt (by omega)]
    omega

theorem bw_top {B X Y n : Nat} (hX : X < B ^ n) (hY : Y < B ^ n) : bw B X Y n = if X < Y then 1 else 0 := by
  unfold bw
  rw [Nat.mod_eq_of_lt hX, Nat.mod_eq_of_lt hY]

/-! ### words of 64 bits, parts of 16 -/
def w64 : Nat := 18446744073709551616
def w16 : Nat := 65536
def top : Nat := w64 ^ 4
theorem w64_pos : 0 < w64 := by unfold w64; omega
theorem w16_pos : 0 < w16 := by unfold w16; omega
theorem top_pos : 0 < top := Nat.pow_pos w64_pos

/-- Word i of n. -/
def wd (n i : Nat) : Int := (dg w64 n i : Nat)
theorem wd_lo (n i : Nat) : 0 ≤ wd n i := Int.natCast_nonneg _
theorem wd_lt (n i : Nat) : wd n i < 18446744073709551616 := by
  have := dg_lt w64_pos n i
  unfold wd; unfold w64 at *; omega

theorem wd_le (n i : Nat) : wd n i ≤ 18446744073709551615 := by have := wd_lt n i; omega

/-- The number of four words. -/
def ofWords (a b c d : Int) : Nat := a.toNat + w64 * (b.toNat + w64 * (c.toNat + w64 * d.toNat))

theorem ofWords_lt {a b c d : Int} (ha : a < 18446744073709551616) (hb : b < 18446744073709551616) (hc : c < 18446744073709551616) (hd : d < 18446744073709551616) : ofWords a b c d < top := by
  unfold ofWords top w64
  omega

theorem wd_ofWords {a b c d : Int} (ha0 : 0 ≤ a) (ha : a < 18446744073709551616) (hb0 : 0 ≤ b) (hb : b < 18446744073709551616) (hc0 : 0 ≤ c) (hc : c < 18446744073709551616) (hd0 : 0 ≤ d) (hd : d < 18446744073709551616) :
    wd (ofWords a b c d) 0 = a ∧ wd (ofWords a b c d) 1 = b ∧ wd (ofWords a b c d) 2 = c ∧ wd (ofWords a b c d) 3 = d := by
  unfold wd dg ofWords w64
  refine ⟨?_, ?_, ?_, ?_⟩ <;> simp <;> omega

theorem wd_mod (n i : Nat) (h : i < 4) : wd (n % top) i = wd n i := by
  unfold wd top
  rw [dg_mod n 4 i h]

/-- Part i of n: 16 bits. -/
def pt (n i : Nat) : Int := (dg w16 n i : Nat)
theorem pt_lo (n i : Nat) : 0 ≤ pt n i := Int.natCast_nonneg _
theorem pt_lt (n i : Nat) : pt n i < 65536 := by
  have := dg_lt w16_pos n i
  unfold pt; unfold w16 at *; omega
/-- What is left of word i behind k parts. -/
def wk (X i k : Nat) : Int := ((dg w64 X i / w16 ^ k : Nat) : Int)
theorem wk_lo (X i k : Nat) : 0 ≤ wk X i k := Int.natCast_nonneg _
theorem wk_le (X i k : Nat) : wk X i k ≤ 18446744073709551615 := by
  have h := dg_lt w64_pos X i
  have h2 : dg w64 X i / w16 ^ k ≤ dg w64 X i := Nat.div_le_self _ _
  have h3 : dg w64 X i / w16 ^ k < w64 := by omega
  unfold wk; unfold w64 at h3 ⊢; omega
theorem wk_zero (X i : Nat) : wk X i 0 = wd X i := by simp [wk, wd]
theorem wk_succ (X i k : Nat) : wk X i (k + 1) = wk X i k / 65536 := by
  unfold wk
  rw [Nat.pow_succ, ← Nat.div_div_eq_div_mul, Int.natCast_ediv]
  rfl
theorem w64_w16 : w64 = w16 ^ 4 := by decide
theorem dg_w16 (X i k : Nat) (hk : k < 4) : dg w64 X i / w16 ^ k % w16 = dg w16 X (4 * i + k) := by
  have h : dg w64 X i = X / w16 ^ (4 * i) % w16 ^ 4 := by rw [dg, w64_w16, Nat.pow_mul]
  rw [h]
  show dg w16 (X / w16 ^ (4 * i) % w16 ^ 4) k = _
  rw [dg_mod _ 4 k hk, dg, dg, Nat.div_div_eq_div_mul, ← Nat.pow_add]
theorem wk_pt (X i k : Nat) (hk : k < 4) : wk X i k % 65536 = pt X (4 * i + k) := by
  unfold wk pt
  rw [← dg_w16 X i k hk]
  rfl
/-- A word of four parts. -/
theorem wd_pt (X q : Nat) : wd X q = pt X (4 * q) + 65536 * pt X (4 * q + 1) + 4294967296 * pt X (4 * q + 2) + 281474976710656 * pt X (4 * q + 3) := by
  have h0 := dg_w16 X q 0 (by omega)
  have h1 := dg_w16 X q 1 (by omega)
  have h2 := dg_w16 X q 2 (by omega)
  have h3 := dg_w16 X q 3 (by omega)
  have hl := dg_lt w64_pos X q
  unfold wd pt
  simp only [Nat.add_zero] at h0
  rw [← h0, ← h1, ← h2, ← h3]
  generalize dg w64 X q = D at *
  unfold w16 w64 at *
  simp only [Nat.pow_zero, Nat.div_one, Nat.reducePow] at *
  omega
end Go.Proofs.YthgenmoiendakaaDoor


/-
  Small facts on worlds: a block known whole, behind new blocks, stores elsewhere, draws, and what leaves everything old alone.
-/
namespace Go.Proofs.YthgenmoiendakaaDoor
open Go.RowKit

/-- Kept from the walk. -/
theorem veil {p : Prop} (h : p) : Hid p := h

section
variable {w w' : World} {b b' t n i B : Nat} {f g : Nat → Value} {cs : Array Value}

theorem row_new (hb : b = w.heap.size) (hn : cs.size = n) (h : ∀ i, i < n → cs[i]? = some (f i)) : (w.alloc (.cells cs t)).rowIs b t n f := by
  subst hb; subst hn
  exact World.rowIs_alloc w cs t f h
theorem row_far (h : w.rowIs b t n f) (hne : b ≠ b') (v : Value) : (w.setCell ⟨b', i, none⟩ v).rowIs b t n f := h.setOther hne v
theorem row_below (h : w.rowIs b t n f) (hb : Below B w w') (hlt : b < B) : w'.rowIs b t n f := h.of_block (hb.block b hlt)
theorem row_drewN (h : w.rowIs b t n f) (k : Nat) : (w.drewN k).rowIs b t n f := h
theorem below_set {a : World} (h : Below B a w) (hb : B ≤ b) (v : Value) : Below B a (w.setCell ⟨b, i, none⟩ v) := h.setCell hb v
theorem below_drewN {a : World} (h : Below B a w) (k : Nat) : Below B a (w.drewN k) := ⟨h.os, h.tape, h.output, h.size, h.block⟩

theorem arr4 (f : Nat → Value) : ∀ i, i < 4 → (#[f 0, f 1, f 2, f 3] : Array Value)[i]? = some (f i)
  | 0, _ => rfl
  | 1, _ => rfl
  | 2, _ => rfl
  | 3, _ => rfl
  | n + 4, h => by omega
theorem arr8 (f : Nat → Value) : ∀ i, i < 8 → (#[f 0, f 1, f 2, f 3, f 4, f 5, f 6, f 7] : Array Value)[i]? = some (f i)
  | 0, _ => rfl
  | 1, _ => rfl
  | 2, _ => rfl
  | 3, _ => rfl
  | 4, _ => rfl
  | 5, _ => rfl
  | 6, _ => rfl
  | 7, _ => rfl
  | n + 8, h => by omega

theorem row_c4 (h : w.rowIs b t 4 f) : w.cell? ⟨b, 0, none⟩ = some (f 0) ∧ w.cell? ⟨b, 1, none⟩ = some (f 1) ∧ w.cell? ⟨b, 2, none⟩ = some (f 2) ∧ w.cell? ⟨b, 3, none⟩ = some (f 3) :=
  ⟨h.cell (by omega), h.cell (by omega), h.cell (by omega), h.cell (by omega)⟩
theorem row_c8 (h : w.rowIs b t 8 f) : w.cell? ⟨b, 0, none⟩ = some (f 0) ∧ w.cell? ⟨b, 1, none⟩ = some (f 1) ∧ w.cell? ⟨b, 2, none⟩ = some (f 2) ∧ w.cell? ⟨b, 3, none⟩ = some (f 3) ∧
    w.cell? ⟨b, 4, none⟩ = some (f 4) ∧ w.cell? ⟨b, 5, none⟩ = some (f 5) ∧ w.cell? ⟨b, 6, none⟩ = some (f 6) ∧ w.cell? ⟨b, 7, none⟩ = some (f 7) :=
  ⟨h.cell (by omega), h.cell (by omega), h.cell (by omega), h.cell (by omega), h.cell (by omega), h.cell (by omega), h.cell (by omega), h.cell (by omega)⟩
theorem row_f4 (h : w.rowIs b t n f) : w.frozen? ⟨b, 0, none⟩ = false ∧ w.frozen? ⟨b, 1, none⟩ = false ∧ w.frozen? ⟨b, 2, none⟩ = false ∧ w.frozen? ⟨b, 3, none⟩ = false :=
  ⟨h.frozen _, h.frozen _, h.frozen _, h.frozen _⟩
theorem row_f8 (h : w.rowIs b t n f) : w.frozen? ⟨b, 0, none⟩ = false ∧ w.frozen? ⟨b, 1, none⟩ = false ∧ w.frozen? ⟨b, 2, none⟩ = false ∧ w.frozen? ⟨b, 3, none⟩ = false ∧
    w.frozen? ⟨b, 4, none⟩ = false ∧ w.frozen? ⟨b, 5, none⟩ = false ∧ w.frozen? ⟨b, 6, none⟩ = false ∧ w.frozen? ⟨b, 7, none⟩ = false :=
  ⟨h.frozen _, h.frozen _, h.frozen _, h.frozen _, h.frozen _, h.frozen _, h.frozen _, h.frozen _⟩
theorem arr_eq {c : Array Value} : ∀ {l : List Value}, c.size = l.length → (∀ i, i < l.length → c[i]? = l[i]?) → c = l.toArray := by
  intro l hs h
  apply Array.ext_getElem?
  intro i
  by_cases hi : i < l.length
  · rw [h i hi]; simp
  · rw [Array.getElem?_eq_none (by omega), Array.getElem?_eq_none (by simp; omega)]

theorem blk4 (h : w.rowIs b t 4 f) : w.heap[b]? = some (.cells #[f 0, f 1, f 2, f 3] t (0, 0)) := by
  obtain ⟨c, hb, hn, hc⟩ := h
  rw [hb, arr_eq (c := c) (l := [f 0, f 1, f 2, f 3]) (by simpa using hn) (fun i hi => by
    have hi4 : i < 4 := by simpa using hi
    rw [hc i hi4]
    exact (by simpa using arr4 f i hi4 : [f 0, f 1, f 2, f 3][i]? = some (f i)).symm)]
theorem blk8 (h : w.rowIs b t 8 f) : w.heap[b]? = some (.cells #[f 0, f 1, f 2, f 3, f 4, f 5, f 6, f 7] t (0, 0)) := by
  obtain ⟨c, hb, hn, hc⟩ := h
  rw [hb, arr_eq (c := c) (l := [f 0, f 1, f 2, f 3, f 4, f 5, f 6, f 7]) (by simpa using hn) (fun i hi => by
    have hi8 : i < 8 := by simpa using hi
    rw [hc i hi8]
    exact (by simpa using arr8 f i hi8 : [f 0, f 1, f 2, f 3, f 4, f 5, f 6, f 7][i]? = some (f i)).symm)]

/-- Four stores fill a block of four. -/
theorem put4 (h : w.rowIs b t 4 f) (g : Nat → Value) : ((((w.setCell ⟨b, 0, none⟩ (g 0)).setCell ⟨b, 1, none⟩ (g 1)).setCell ⟨b, 2, none⟩ (g 2)).setCell ⟨b, 3, none⟩ (g 3)).rowIs b t 4 g :=
  ((((h.set 0 (g 0)).set 1 (g 1)).set 2 (g 2)).set 3 (g 3)).congr fun i hi => by
    have : i = 0 ∨ i = 1 ∨ i = 2 ∨ i = 3 := by omega
    rcases this with rfl | rfl | rfl | rfl <;> rfl
/-- Eight stores fill a block of eight. -/
theorem put8 (h : w.rowIs b t 8 f) (g : Nat → Value) : ((((((((w.setCell ⟨b, 0, none⟩ (g 0)).setCell ⟨b, 1, none⟩ (g 1)).setCell ⟨b, 2, none⟩ (g 2)).setCell ⟨b, 3, none⟩ (g 3)).setCell ⟨b, 4, none⟩ (g 4)).setCell ⟨b, 5, none⟩ (g 5)).setCell ⟨b, 6, none⟩ (g 6)).setCell ⟨b, 7, none⟩ (g 7)).rowIs b t 8 g :=
  ((((((((h.set 0 (g 0)).set 1 (g 1)).set 2 (g 2)).set 3 (g 3)).set 4 (g 4)).set 5 (g 5)).set 6 (g 6)).set 7 (g 7)).congr fun i hi => by
    have : i = 0 ∨ i = 1 ∨ i = 2 ∨ i = 3 ∨ i = 4 ∨ i = 5 ∨ i = 6 ∨ i = 7 := by omega
    rcases this with rfl | rfl | rfl | rfl | rfl | rfl | rfl | rfl <;> rfl
theorem row_far4 (h : w.rowIs b t n f) (hne : b ≠ b') (v0 v1 v2 v3 : Value) : ((((w.setCell ⟨b', 0, none⟩ v0).setCell ⟨b', 1, none⟩ v1).setCell ⟨b', 2, none⟩ v2).setCell ⟨b', 3, none⟩ v3).rowIs b t n f :=
  row_far (row_far (row_far (row_far h hne _) hne _) hne _) hne _
theorem below_put4 {a : World} (h : Below B a w) (hb : B ≤ b) (v0 v1 v2 v3 : Value) : Below B a ((((w.setCell ⟨b, 0, none⟩ v0).setCell ⟨b, 1, none⟩ v1).setCell ⟨b, 2, none⟩ v2).setCell ⟨b, 3, none⟩ v3) :=
  below_set (below_set (below_set (below_set h hb _) hb _) hb _) hb _
theorem below_put8 {a : World} (h : Below B a w) (hb : B ≤ b) (v0 v1 v2 v3 v4 v5 v6 v7 : Value) :
    Below B a ((((((((w.setCell ⟨b, 0, none⟩ v0).setCell ⟨b, 1, none⟩ v1).setCell ⟨b, 2, none⟩ v2).setCell ⟨b, 3, none⟩ v3).setCell ⟨b, 4, none⟩ v4).setCell ⟨b, 5, none⟩ v5).setCell ⟨b, 6, none⟩ v6).setCell ⟨b, 7, none⟩ v7) :=
  below_set (below_set (below_set (below_set (below_set (below_set (below_set (below_set h hb _) hb _) hb _) hb _) hb _) hb _) hb _) hb _
end

theorem row_step {X : Nat} {k : Nat} (hk : k < 4) : ∀ i, i < 4 → (if i = k then Value.int .u64 (wd X k) else Value.int .u64 (if i < k then wd X i else 0)) = Value.int .u64 (if i < k + 1 then wd X i else 0) := by
  intro i _
  by_cases h : i = k
  · subst h; simp
  · rw [if_neg h]; by_cases h2 : i < k
    · rw [if_pos h2, if_pos (by omega)]
    · rw [if_neg h2, if_neg (by omega)]

/-- Block g begins with n cells of type t, cell i holding 'f i'; none of it frozen. -/
def Pre (w : World) (g t n : Nat) (f : Nat → Value) : Prop := ∃ c : Array Value, w.heap[g]? = some (.cells c t (0, 0)) ∧ ∀ i, i < n → c[i]? = some (f i)
section
variable {w w' : World} {g t n B : Nat} {f h : Nat → Value}
theorem Pre.cell (p : Pre w g t n f) {i : Nat} (hi : i < n) : w.cell? ⟨g, i, none⟩ = some (f i) := by
  obtain ⟨c, hb, hc⟩ := p
  simp [World.cell?, hb, hc i hi]
theorem Pre.frozen (p : Pre w g t n f) (i : Nat) : w.frozen? ⟨g, i, none⟩ = false := by
  obtain ⟨c, hb, _⟩ := p
  simp [World.frozen?, hb]
theorem Pre.lt (p : Pre w g t n f) : g < w.heap.size := by
  obtain ⟨c, hb, _⟩ := p
  obtain ⟨hlt, _⟩ := Array.getElem?_eq_some_iff.1 hb
  exact hlt
theorem Pre.congr (p : Pre w g t n f) (e : ∀ i, i < n → f i = h i) : Pre w g t n h := by
  obtain ⟨c, hb, hc⟩ := p
  exact ⟨c, hb, fun i hi => by rw [hc i hi, e i hi]⟩
theorem Pre.of_block (p : Pre w g t n f) (e : w'.heap[g]? = w.heap[g]?) : Pre w' g t n f := by
  obtain ⟨c, hb, hc⟩ := p
  exact ⟨c, e.trans hb, hc⟩
theorem Pre.set (p : Pre w g t n f) (i : Nat) (v : Value) : Pre (w.setCell ⟨g, i, none⟩ v) g t n (fun j => if j = i then v else f j) := by
  obtain ⟨c, hb, hc⟩ := p
  refine ⟨c.setIfInBounds i v, ?_, fun j hj => ?_⟩
  · simp [World.setCell, Array.getElem?_modify, hb]
  · rw [Array.getElem?_setIfInBounds]
    have hlt : j < c.size := (Array.getElem?_eq_some_iff.1 (hc j hj)).1
    by_cases e : j = i
    · subst e; simp [hlt]
    · rw [if_neg (fun h => e h.symm)]
      show c[j]? = some (if j = i then v else f j)
      rw [if_neg e, hc j hj]
theorem Pre.far {b i : Nat} (p : Pre w g t n f) (hne : g ≠ b) (v : Value) : Pre (w.setCell ⟨b, i, none⟩ v) g t n f := p.of_block (Below.heap_setCell _ _ _ _ hne)
theorem Pre.alloc (p : Pre w g t n f) (o : Obj) : Pre (w.alloc o) g t n f := p.of_block (Below.heap_alloc _ _ _ p.lt)
theorem Pre.drew (p : Pre w g t n f) : Pre w.drew g t n f := p
theorem Pre.drewN (p : Pre w g t n f) (k : Nat) : Pre (w.drewN k) g t n f := p
theorem Pre.below (p : Pre w g t n f) (hb : Below B w w') (hlt : g < B) : Pre w' g t n f := p.of_block (hb.block g hlt)
theorem Pre.less (p : Pre w g t n f) {m : Nat} (hm : m ≤ n) : Pre w g t m f := by
  obtain ⟨c, hb, hc⟩ := p
  exact ⟨c, hb, fun i hi => hc i (by omega)⟩
theorem Pre.of_row (r : w.rowIs g t n f) : Pre w g t n f := by
  obtain ⟨c, hb, _, hc⟩ := r
  exact ⟨c, hb, hc⟩
/-- What a slice of the call's own owns. -/
theorem Pre.of_own {base m : Nat} {v : Value} (hown : w.ownsRow base t 1 v m ((List.range m).map f)) (hm : 0 < m) :
    ∃ g cap, v = .slice (some ⟨g, 0, none⟩) m cap ∧ m ≤ cap ∧ base ≤ g ∧ Pre w g t m f := by
  obtain ⟨_, ⟨_, h0⟩ | ⟨g, cap, cur, rfl, hbg, hh, hnc, _, _, ht⟩⟩ := hown
  · omega
  · refine ⟨g, cap, rfl, hnc, hbg, cur, hh, fun i hi => ?_⟩
    have e : cur.toList[i]? = (cur.toList.take (m * 1))[i]? := by rw [List.getElem?_take_of_lt (by omega)]
    have : cur[i]? = cur.toList[i]? := by simp
    rw [this, e, ht]
    simp [hi]
theorem row_grown {b : Nat} {row : Option Nat} (r : w.rowIs b t n f) (hg : w.grownBy w' row) (hne : some b ≠ row) : w'.rowIs b t n f := r.of_block (hg.block b r.lt hne)
end

/-- A call that leaves its world alone, in a region that only reads and stands behind such a one. -/
theorem quiet_more {P : Program} {fid : FuncId} {args : Array Value} {w : World} {a n : Nat} {v : Value} (h : Calls P fid args (w.drewN (a + n)) fun e w' => e = .returned v ∧ w' = w.drewN (a + n)) :
    Calls P fid args (w.drewN (a + n)) fun e w' => e = .returned v ∧ ∃ m, w' = w.drewN (a + m) :=
  h.mono fun _ _ ⟨he, hm⟩ => ⟨he, n, hm⟩

/-- All that was there at wz reads as it did: kept by a call that leaves what is old alone. -/
theorem keep_old {wz W w' : World} (hb : Below W.heap.size W w') (h : (∀ b o, b < wz.heap.size → W.cell? ⟨b, o, none⟩ = wz.cell? ⟨b, o, none⟩) ∧ Below wz.heap.size wz W) :
    (∀ b o, b < wz.heap.size → w'.cell? ⟨b, o, none⟩ = wz.cell? ⟨b, o, none⟩) ∧ Below wz.heap.size wz w' :=
  ⟨fun b o hlt => (hb.cell (p := ⟨b, o, none⟩) (Nat.lt_of_lt_of_le hlt h.2.size)).trans (h.1 b o hlt), h.2.trans (hb.mono h.2.size)⟩
theorem keep_drew (wz : World) : (∀ b o, b < wz.heap.size → wz.drew.cell? ⟨b, o, none⟩ = wz.cell? ⟨b, o, none⟩) ∧ Below wz.heap.size wz wz.drew :=
  ⟨fun _ _ _ => rfl, (Below.refl _ _).drew⟩

/-- Two results, the first an array that lies in a block. -/
theorem results_cell_tmp2 {P : Program} {fn : Func} {p s : Tmp} {ty : TypeId} (h : fn.results = #[.cell p ty, .tmp s]) (tmps : Array Value) (w : World) (g : Nat) (t : TypeId) (cs : Array Value) (fr : Nat × Nat) (n : Nat) (e : TypeId)
    (hp : tmps.getD p undef = .pointer (some ⟨g, 0, none⟩)) (hg : w.heap[g]? = some (.cells cs t fr)) (hu : P.underlying ty = some (.array n e)) (hi : (P.info? ty).map (·.size) = some cs.size) :
    (results fn tmps).run P w = .ok (.tuple #[.agg cs, tmps.getD s undef]) w := by
  have hp' : tmps[p]?.getD undef = .pointer (some ⟨g, 0, none⟩) := by simpa using hp
  simp [results, h, hp', asAddr, run_loadVar_row w g t ty cs fr _ hg hu rfl hi]
end Go.Proofs.YthgenmoiendakaaDoor


/-
  clapperref01.Parts: the parts of a number, 16 bits each.
-/
namespace Go.Proofs.YthgenmoiendakaaDoor
open Go.RowKit

theorem infoInt : (Tryd.prog.info? 3).map (fun i => (i.zero, i.size, i.bytes)) = some (some (.int .i64 0), 1, 8) := by kernel_rfl

def ptv (X j : Nat) : Value := .int .i64 (pt X j)
theorem ptL_succ (X m : Nat) : (List.range (m + 1)).map (ptv X) = (List.range m).map (ptv X) ++ [.int .i64 (pt X m)] := by
  rw [List.range_succ, List.map_append]; rfl

set_option maxRecDepth 100000 in
set_option maxHeartbeats 1000000 in
theorem parts_any (X : Nat) (w : World) :
    Calls Tryd.prog 31 #[.agg #[.int .u64 (wd (X) 0), .int .u64 (wd (X) 1), .int .u64 (wd (X) 2), .int .u64 (wd (X) 3)]] w fun e w' => ∃ v, e = .returned v ∧ w'.ownsRow (w.heap.size + 1) 3 1 v 16 ((List.range 16).map (ptv X)) ∧ Below w.heap.size w w' := by
  obtain ⟨i0, hi, hz0, hz1, hz2⟩ := info_parts infoInt
  go_enter Tryd.func31, Tryd.ntmps31
  go_wp2
  go_loopw [3, 4] (fun v i wr => ∃ k : Nat, k ≤ 4 ∧ i = .int .i64 k ∧ wr.ownsRow (w.heap.size + 1) 3 1 v (4 * k) ((List.range (4 * k)).map (ptv X)) ∧ wr.rowIs w.heap.size 24 4 (fun j => .int .u64 (wd X j)) ∧ Below w.heap.size w wr)
    (fun _ i _ => 4 - (intOf i).toNat)
  case atStart => exact ⟨0, by omega, rfl, World.ownsRow_nil _ _ _ _, row_new (n := 4) (by simp) rfl (arr4 fun j => .int .u64 (wd X j)), (Below.refl _ _).alloc (by simp) _⟩
  case round =>
    obtain ⟨i, hi4, rfl, hown, hR, hbel⟩ := hrel
    by_cases hlt : i < 4
    · have c1 := hR.cell hlt
      have hd : decide ((i : Int) < 4) = true := by simp; omega
      go_wp2
      clear c1
      obtain ⟨wo, hwo⟩ : ∃ wo : World, wo = wr := ⟨_, rfl⟩
      rw [← hwo] at hown hR hbel ⊢
      clear hwo
      go_loopw [3, 5, 6] (fun v q k wq => ∃ m : Nat, m ≤ 4 ∧ k = .int .i64 m ∧ q = .int .u64 (wk X i m) ∧ wq.ownsRow (w.heap.size + 1) 3 1 v (4 * i + m) ((List.range (4 * i + m)).map (ptv X)) ∧ wq.rowIs w.heap.size 24 4 (fun j => .int .u64 (wd X j)) ∧ Below w.heap.size w wq)
        (fun _ _ k _ => 4 - (intOf k).toNat)
      case atStart => exact ⟨0, by omega, rfl, by rw [wk_zero], hown, hR, hbel⟩
      case round =>
        obtain ⟨m, hm4, rfl, rfl, hown, hR, hbel⟩ := hrel
        have hq := wk_lo X i m
        have hq2 := wk_le X i m
        by_cases hlm : m < 4
        · have hsz := hR.lt
          go_wp2_with (at_builtin; refine wpList_append_own _ rfl _ _ 60 rfl (w.heap.size + 1) 3 i0 (.int .i64 0) 1 8 Tryd.underlying60 hi hz0 hz1 hz2 rfl (by decide) _ _ _ rfl (hown.alloc _) ⟨wr.heap.size, 0, none⟩ 1 1 [.int .i64 (wk X i m % 65536)] rfl rfl ?c1 ?c2 ?c3 ?c4 ?c5 ?_)
          case c1 =>
            intro j u hj
            match j, hj with
            | 0, hj => simp at hj; subst hj; simp [Addr.add]
          case c2 => intro u hu; simp at hu; subst hu; rfl
          case c3 => unfold maxLen; omega
          case c4 => omega
          case c5 => simp; omega
          intro v' w1 hown' hgrow _
          rw [wk_pt X i m hlm, ← ptL_succ] at hown'
          have hR1 := row_grown (hR.alloc _) hgrow (fun e => by have := (hown.lt _ e.symm).1; omega)
          have hb1 := (hbel.alloc (by omega) _).grown hgrow (by simp; omega) (fun k e => by have := (hown.lt _ e).1; omega)
          clear hown hgrow hR hbel
          go_wp2
          go_roundw
          case rel => exact ⟨m + 1, by omega, by go_num, by rw [wk_succ], hown', hR1, hb1⟩
          case measure => simp [intOf]; omega
        · obtain rfl : m = 4 := by omega
          go_wp2
          go_roundw
          case rel => exact ⟨i + 1, by omega, by go_num, by rw [show 4 * (i + 1) = 4 * i + 4 by omega]; exact hown, hR, hbel⟩
          case measure => simp [intOf]; omega
    · obtain rfl : i = 4 := by omega
      go_wp2
      go_ret
      exact ⟨_, rfl, hown, hbel⟩

/-- Parts of a number: a new slice of its 16 parts. -/
theorem parts_calls (X : Nat) (w : World) :
    Calls Tryd.prog 31 #[.agg #[.int .u64 (wd (X) 0), .int .u64 (wd (X) 1), .int .u64 (wd (X) 2), .int .u64 (wd (X) 3)]] w fun e w' => ∃ g cap, e = .returned (.slice (some ⟨g, 0, none⟩) 16 cap) ∧ w.heap.size ≤ g ∧ Pre w' g 3 16 (ptv X) ∧ Below w.heap.size w w' := by
  refine (parts_any X w).mono ?_
  rintro e w' ⟨v, rfl, hown, hb⟩
  obtain ⟨g, cap, rfl, _, hg, hp⟩ := Pre.of_own hown (by omega)
  exact ⟨g, cap, rfl, by omega, hp, hb⟩
end Go.Proofs.YthgenmoiendakaaDoor


/-
  2^256 in parts of 16 bits.
-/
namespace Go.Proofs.YthgenmoiendakaaDoor
theorem top_w16 : top = w16 ^ 16 := by unfold top; rw [w64_w16, ← Nat.pow_mul]
end Go.Proofs.YthgenmoiendakaaDoor


/-
  limb.Add: the sum.
-/
namespace Go.Proofs.YthgenmoiendakaaDoor
open Go.RowKit

theorem add64 (x y c : Int) (hx : 0 ≤ x) (hy : 0 ≤ y) (hc0 : 0 ≤ c) (hc : c ≤ 1) (w : World) :
    (callFunc 73 #[.int .u64 x, .int .u64 y, .int .u64 c]).run Tryd.prog w = .ok (.value (.tuple #[.int .u64 ((x + y + c) % 18446744073709551616), .int .u64 ((x + y + c) / 18446744073709551616)])) w := by
  rw [run_callFunc_extern Tryd.func73 (by kernel_rfl) (by kernel_rfl) (by kernel_rfl) (e := add64Entry) (by kernel_rfl), run_add64 x y c hx hy hc0 hc]
  rfl

/-- The carry, as the program holds it. -/
def cyI (X Y i : Nat) : Int := (cy w64 X Y i : Nat)
theorem add64_at (X Y k : Nat) (w : World) :
    (callFunc 73 #[.int .u64 (wd X k), .int .u64 (wd Y k), .int .u64 (cyI X Y k)]).run Tryd.prog w = .ok (.value (.tuple #[.int .u64 (wd (X + Y) k), .int .u64 (cyI X Y (k + 1))])) w := by
  have hc := cy_le w64_pos X Y k
  rw [add64 _ _ _ (wd_lo _ _) (wd_lo _ _) (by unfold cyI; omega) (by unfold cyI; omega)]
  unfold wd cyI
  rw [cy_succ w64_pos, dg_add w64_pos]
  unfold w64
  simp

theorem cyI_top {X Y : Nat} (hX : X < top) (hY : Y < top) : (cyI X Y 4 != 0) = decide (top ≤ X + Y) := by
  unfold cyI
  rw [cy_top (n := 4) hX hY]
  show _ = decide (w64 ^ 4 ≤ X + Y)
  by_cases h : w64 ^ 4 ≤ X + Y <;> simp [h]

set_option maxRecDepth 100000 in
set_option maxHeartbeats 400000 in
theorem add_any (X Y : Nat) (hX : X < top) (hY : Y < top) (w : World) :
    Calls Tryd.prog 67 #[.agg #[.int .u64 (wd (X) 0), .int .u64 (wd (X) 1), .int .u64 (wd (X) 2), .int .u64 (wd (X) 3)], .agg #[.int .u64 (wd (Y) 0), .int .u64 (wd (Y) 1), .int .u64 (wd (Y) 2), .int .u64 (wd (Y) 3)]] w fun e w' =>
      e = .returned (.tuple #[.agg #[.int .u64 (wd (X + Y) 0), .int .u64 (wd (X + Y) 1), .int .u64 (wd (X + Y) 2), .int .u64 (wd (X + Y) 3)], .bool (decide (top ≤ X + Y))]) ∧ Below w.heap.size w w' := by
  have h29 := fun (k : Nat) (W : World) => add64_at X Y k W
  go_enter Tryd.func67, Tryd.ntmps67
  go_wp2
  go_loopw [7, 9] (fun c i wr => ∃ k : Nat, k ≤ 4 ∧ i = .int .i64 k ∧ c = .int .u64 (cyI X Y k) ∧ wr.rowIs w.heap.size 24 4 (fun j => .int .u64 (wd X j))
      ∧ wr.rowIs (w.heap.size + 1) 24 4 (fun j => .int .u64 (wd Y j)) ∧ wr.rowIs (w.heap.size + 1 + 1) 24 4 (fun _ => .int .u64 0)
      ∧ wr.rowIs (w.heap.size + 1 + 1 + 1) 24 4 (fun j => .int .u64 (if j < k then wd (X + Y) j else 0)) ∧ Below w.heap.size w wr)
    (fun _ i _ => 4 - (intOf i).toNat)
  case atStart => exact ⟨0, by omega, rfl, by simp [cyI, cy_zero], (((row_new (n := 4) (by simp) rfl (arr4 fun j => .int .u64 (wd X j))).alloc _).alloc _).alloc _, ((row_new (n := 4) (by simp) rfl (arr4 fun j => .int .u64 (wd Y j))).alloc _).alloc _, (row_new (n := 4) (by simp) rfl (arr4 fun _ => .int .u64 0)).alloc _, row_new (n := 4) (by simp) rfl (arr4 fun _ => .int .u64 0), ((((Below.refl _ _).alloc (by simp) _).alloc (by simp) _).alloc (by simp; omega) _).alloc (by simp; omega) _⟩
  case round =>
    obtain ⟨k, hk, rfl, rfl, hRX, hRY, hRZ, hRS, hbel⟩ := hrel
    by_cases hlt : k < 4
    · have c1 := hRX.cell hlt
      have c2 := hRY.cell hlt
      have c3 := hRS.cell hlt
      have f3 := hRS.frozen k
      go_wp2
      go_region_with (fail)
      all_goals
        go_wp2
        go_roundw
        case rel => exact ⟨k + 1, by omega, by go_num, rfl, (row_far hRX (by omega) _).drew, (row_far hRY (by omega) _).drew, (row_far hRZ (by omega) _).drew, ((hRS.set k _).congr (row_step hlt)).drew, (below_set hbel (by omega) _).drew⟩
        case measure => simp [intOf]; omega
    · obtain rfl : k = 4 := by omega
      obtain ⟨c0, c1, c2, c3⟩ := row_c4 hRS
      obtain ⟨d0, d1, d2, d3⟩ := row_c4 hRZ
      obtain ⟨f0, f1, f2, f3⟩ := row_f4 hRZ
      simp only [show (0 : Nat) < 4 from by omega, show (1 : Nat) < 4 from by omega, show (2 : Nat) < 4 from by omega, show (3 : Nat) < 4 from by omega, if_true] at c0 c1 c2 c3
      clear hRX hRY hRS
      have hz := cyI_top hX hY
      go_wp2
      refine bodyPost_ret (results_cell_tmp2 rfl _ _ (w.heap.size + 1 + 1) 24 #[.int .u64 (wd (X + Y) 0), .int .u64 (wd (X + Y) 1), .int .u64 (wd (X + Y) 2), .int .u64 (wd (X + Y) 3)] (0, 0) 4 22 rfl (blk4 (put4 hRZ fun j => .int .u64 (wd (X + Y) j))) Tryd.underlying24 (by kernel_rfl)) rfl ⟨?_, below_put4 hbel (by omega) _ _ _ _⟩
      rfl

/-- limb.Add of two numbers: the sum modulo 2^256, and whether it goes over. -/
theorem add_calls (X Y : Nat) (hX : X < top) (hY : Y < top) (w : World) :
    Calls Tryd.prog 67 #[.agg #[.int .u64 (wd (X) 0), .int .u64 (wd (X) 1), .int .u64 (wd (X) 2), .int .u64 (wd (X) 3)], .agg #[.int .u64 (wd (Y) 0), .int .u64 (wd (Y) 1), .int .u64 (wd (Y) 2), .int .u64 (wd (Y) 3)]] w fun e w' => e = .returned (.tuple #[.agg #[.int .u64 (wd ((X + Y) % top) 0), .int .u64 (wd ((X + Y) % top) 1), .int .u64 (wd ((X + Y) % top) 2), .int .u64 (wd ((X + Y) % top) 3)], .bool (decide (top ≤ X + Y))]) ∧ Below w.heap.size w w' := by
  rw [wd_mod _ 0 (by omega), wd_mod _ 1 (by omega), wd_mod _ 2 (by omega), wd_mod _ 3 (by omega)]
  exact add_any X Y hX hY w
end Go.Proofs.YthgenmoiendakaaDoor


/-
  limb.Sub: the difference.
-/
namespace Go.Proofs.YthgenmoiendakaaDoor
open Go.RowKit

def sub64Entry : Array Value → Sem Value := fun args => do
  let (x, y, b) ← Extern.MathBitsCarry.three "Sub64" args
  pure (Extern.MathBitsCarry.pair ((x + Extern.MathBitsCarry.m64 - y - b) % Extern.MathBitsCarry.m64) (if x < y + b then 1 else 0))

theorem run_sub64 (x y b : Nat) (hb : b ≤ 1) (w : World) :
    (sub64Entry #[.int .u64 (x : Int), .int .u64 (y : Int), .int .u64 (b : Int)]).run Tryd.prog w =
      .ok (.tuple #[.int .u64 (((x + w64 - y - b) % w64 : Nat) : Int), .int .u64 ((if x < y + b then 1 else 0 : Nat) : Int)]) w := by
  have : b = 0 ∨ b = 1 := by omega
  rcases this with rfl | rfl <;> rfl

theorem sub64 (x y b : Nat) (hb : b ≤ 1) (w : World) :
    (callFunc 74 #[.int .u64 (x : Int), .int .u64 (y : Int), .int .u64 (b : Int)]).run Tryd.prog w = .ok (.value (.tuple #[.int .u64 (((x + w64 - y - b) % w64 : Nat) : Int), .int .u64 ((if x < y + b then 1 else 0 : Nat) : Int)])) w := by
  rw [run_callFunc_extern Tryd.func74 (by kernel_rfl) (by kernel_rfl) (by kernel_rfl) (e := sub64Entry) (by kernel_rfl), run_sub64 x y b hb]
  rfl

/-- The borrow, as the program holds it. -/
def bwI (X Y i : Nat) : Int := (bw w64 X Y i : Nat)
theorem sub64_at (X Y k : Nat) (hk : k < 4) (hY : Y ≤ top) (w : World) :
    (callFunc 74 #[.int .u64 (wd X k), .int .u64 (wd Y k), .int .u64 (bwI X Y k)]).run Tryd.prog w = .ok (.value (.tuple #[.int .u64 (wd (X + top - Y) k), .int .u64 (bwI X Y (k + 1))])) w := by
  unfold wd bwI
  rw [sub64 _ _ _ (bw_le w64 X Y k)]
  unfold top at hY ⊢
  rw [bw_succ w64_pos, dg_sub w64_pos X Y 4 k hk hY]

theorem bwI_top {X Y : Nat} (hX : X < top) (hY : Y < top) : (bwI X Y 4 != 0) = decide (X < Y) := by
  unfold bwI
  rw [bw_top (n := 4) hX hY]
  by_cases h : X < Y <;> simp [h]

set_option maxRecDepth 100000 in
set_option maxHeartbeats 400000 in
theorem sub_any (X Y : Nat) (hX : X < top) (hY : Y < top) (w : World) :
    Calls Tryd.prog 68 #[.agg #[.int .u64 (wd (X) 0), .int .u64 (wd (X) 1), .int .u64 (wd (X) 2), .int .u64 (wd (X) 3)], .agg #[.int .u64 (wd (Y) 0), .int .u64 (wd (Y) 1), .int .u64 (wd (Y) 2), .int .u64 (wd (Y) 3)]] w fun e w' =>
      e = .returned (.tuple #[.agg #[.int .u64 (wd (X + top - Y) 0), .int .u64 (wd (X + top - Y) 1), .int .u64 (wd (X + top - Y) 2), .int .u64 (wd (X + top - Y) 3)], .bool (decide (X < Y))]) ∧ Below w.heap.size w w' := by
  go_enter Tryd.func68, Tryd.ntmps68
  go_wp2
  go_loopw [7, 9] (fun c i wr => ∃ k : Nat, k ≤ 4 ∧ i = .int .i64 k ∧ c = .int .u64 (bwI X Y k) ∧ wr.rowIs w.heap.size 24 4 (fun j => .int .u64 (wd X j))
      ∧ wr.rowIs (w.heap.size + 1) 24 4 (fun j => .int .u64 (wd Y j)) ∧ wr.rowIs (w.heap.size + 1 + 1) 24 4 (fun _ => .int .u64 0)
      ∧ wr.rowIs (w.heap.size + 1 + 1 + 1) 24 4 (fun j => .int .u64 (if j < k then wd (X + top - Y) j else 0)) ∧ Below w.heap.size w wr)
    (fun _ i _ => 4 - (intOf i).toNat)
  case atStart => exact ⟨0, by omega, rfl, by simp [bwI, bw_zero], (((row_new (n := 4) (by simp) rfl (arr4 fun j => .int .u64 (wd X j))).alloc _).alloc _).alloc _, ((row_new (n := 4) (by simp) rfl (arr4 fun j => .int .u64 (wd Y j))).alloc _).alloc _, (row_new (n := 4) (by simp) rfl (arr4 fun _ => .int .u64 0)).alloc _, row_new (n := 4) (by simp) rfl (arr4 fun _ => .int .u64 0), ((((Below.refl _ _).alloc (by simp) _).alloc (by simp) _).alloc (by simp; omega) _).alloc (by simp; omega) _⟩
  case round =>
    obtain ⟨k, hk, rfl, rfl, hRX, hRY, hRZ, hRS, hbel⟩ := hrel
    by_cases hlt : k < 4
    · have c1 := hRX.cell hlt
      have c2 := hRY.cell hlt
      have c3 := hRS.cell hlt
      have f3 := hRS.frozen k
      have h30 := fun (W : World) => sub64_at X Y k hlt (Nat.le_of_lt hY) W
      go_wp2
      go_region_with (fail)
      all_goals
        go_wp2
        go_roundw
        case rel => exact ⟨k + 1, by omega, by go_num, rfl, (row_far hRX (by omega) _).drew, (row_far hRY (by omega) _).drew, (row_far hRZ (by omega) _).drew, ((hRS.set k _).congr (row_step hlt)).drew, (below_set hbel (by omega) _).drew⟩
        case measure => simp [intOf]; omega
    · obtain rfl : k = 4 := by omega
      obtain ⟨c0, c1, c2, c3⟩ := row_c4 hRS
      obtain ⟨d0, d1, d2, d3⟩ := row_c4 hRZ
      obtain ⟨f0, f1, f2, f3⟩ := row_f4 hRZ
      simp only [show (0 : Nat) < 4 from by omega, show (1 : Nat) < 4 from by omega, show (2 : Nat) < 4 from by omega, show (3 : Nat) < 4 from by omega, if_true] at c0 c1 c2 c3
      clear hRX hRY hRS
      have hz := bwI_top hX hY
      go_wp2
      refine bodyPost_ret (results_cell_tmp2 rfl _ _ (w.heap.size + 1 + 1) 24 #[.int .u64 (wd (X + top - Y) 0), .int .u64 (wd (X + top - Y) 1), .int .u64 (wd (X + top - Y) 2), .int .u64 (wd (X + top - Y) 3)] (0, 0) 4 22 rfl (blk4 (put4 hRZ fun j => .int .u64 (wd (X + top - Y) j))) Tryd.underlying24 (by kernel_rfl)) rfl ⟨?_, below_put4 hbel (by omega) _ _ _ _⟩
      rfl

/-- limb.Sub of two numbers: the difference modulo 2^256, and whether the second is above. -/
theorem sub_calls (X Y : Nat) (hX : X < top) (hY : Y < top) (w : World) :
    Calls Tryd.prog 68 #[.agg #[.int .u64 (wd (X) 0), .int .u64 (wd (X) 1), .int .u64 (wd (X) 2), .int .u64 (wd (X) 3)], .agg #[.int .u64 (wd (Y) 0), .int .u64 (wd (Y) 1), .int .u64 (wd (Y) 2), .int .u64 (wd (Y) 3)]] w fun e w' => e = .returned (.tuple #[.agg #[.int .u64 (wd ((X + top - Y) % top) 0), .int .u64 (wd ((X + top - Y) % top) 1), .int .u64 (wd ((X + top - Y) % top) 2), .int .u64 (wd ((X + top - Y) % top) 3)], .bool (decide (X < Y))]) ∧ Below w.heap.size w w' := by
  rw [wd_mod _ 0 (by omega), wd_mod _ 1 (by omega), wd_mod _ 2 (by omega), wd_mod _ 3 (by omega)]
  exact sub_any X Y hX hY w
end Go.Proofs.YthgenmoiendakaaDoor


/-
  limb.Cmp: which of two numbers is below.
-/
namespace Go.Proofs.YthgenmoiendakaaDoor
open Go.RowKit

/-- -1, 0, 1: below, the same, above. -/
def cmpN (X Y : Nat) : Int := if X < Y then -1 else if Y < X then 1 else 0

theorem cmp_step (B X Y k : Nat) (hB : 0 < B) : cmpN (X % B ^ (k + 1)) (Y % B ^ (k + 1)) = if dg B X k < dg B Y k then -1 else if dg B Y k < dg B X k then 1 else cmpN (X % B ^ k) (Y % B ^ k) := by
  have hp : 0 < B ^ k := Nat.pow_pos hB
  have h1 := Nat.mod_lt X hp
  have h2 := Nat.mod_lt Y hp
  unfold cmpN
  rw [mod_succ, mod_succ]
  generalize dg B X k = x
  generalize dg B Y k = y
  generalize X % B ^ k = r at *
  generalize Y % B ^ k = s at *
  generalize B ^ k = P at *
  by_cases hxy : x < y
  · have : P * x + P ≤ P * y := by rw [← Nat.mul_succ]; exact Nat.mul_le_mul_left _ hxy
    rw [if_pos (by omega), if_pos hxy]
  · by_cases hyx : y < x
    · have : P * y + P ≤ P * x := by rw [← Nat.mul_succ]; exact Nat.mul_le_mul_left _ hyx
      rw [if_neg (by omega), if_pos (by omega), if_neg hxy, if_pos hyx]
    · have hxy' : x = y := by omega
      subst hxy'
      simp

theorem cmp_high (B X Y n m : Nat) (hB : 0 < B) (hX : X < B ^ n) (hY : Y < B ^ n) (hm : m < n) (h : ∀ j, m < j → j < n → dg B X j = dg B Y j) (hne : dg B X m ≠ dg B Y m) :
    cmpN X Y = if dg B X m < dg B Y m then -1 else 1 := by
  have e : X / B ^ (m + 1) = Y / B ^ (m + 1) := by
    have hn : B ^ n = B ^ (m + 1) * B ^ (n - (m + 1)) := by rw [← Nat.pow_add]; congr 1; omega
    refine eq_of_dg_lt hB (n := n - (m + 1)) ?_ ?_ fun i hi => ?_
    · rw [Nat.div_lt_iff_lt_mul (Nat.pow_pos hB), Nat.mul_comm, ← hn]; exact hX
    · rw [Nat.div_lt_iff_lt_mul (Nat.pow_pos hB), Nat.mul_comm, ← hn]; exact hY
    · have := h (m + 1 + i) (by omega) (by omega)
      unfold dg at *
      rwa [Nat.div_div_eq_div_mul, Nat.div_div_eq_div_mul, ← Nat.pow_add]
  have c : cmpN X Y = cmpN (X % B ^ (m + 1)) (Y % B ^ (m + 1)) := by
    have hx := Nat.mod_add_div X (B ^ (m + 1))
    have hy := Nat.mod_add_div Y (B ^ (m + 1))
    rw [e] at hx
    unfold cmpN
    generalize B ^ (m + 1) * (Y / B ^ (m + 1)) = q at *
    generalize X % B ^ (m + 1) = r at *
    generalize Y % B ^ (m + 1) = s at *
    subst hx; subst hy
    simp
  rw [c, cmp_step B X Y m hB]
  by_cases hlt : dg B X m < dg B Y m
  · rw [if_pos hlt, if_pos hlt]
  · rw [if_neg hlt, if_neg hlt, if_pos (by omega)]

set_option maxRecDepth 100000 in
set_option maxHeartbeats 400000 in
theorem compare_lt (x y : Int) (h : x < y) (w : World) : Calls Tryd.prog 39 #[.int .u64 x, .int .u64 y] w fun e w' => e = .returned (.int .i64 (-1)) ∧ w' = w := by
  go_enter Tryd.func39, Tryd.ntmps39
  go_wp2
  go_ret
  exact ⟨rfl, rfl⟩
set_option maxRecDepth 100000 in
set_option maxHeartbeats 400000 in
theorem compare_gt (x y : Int) (h : y < x) (w : World) : Calls Tryd.prog 39 #[.int .u64 x, .int .u64 y] w fun e w' => e = .returned (.int .i64 1) ∧ w' = w := by
  go_enter Tryd.func39, Tryd.ntmps39
  go_wp2
  go_ret
  exact ⟨rfl, rfl⟩

theorem wd_cmp {X Y k : Nat} (h : dg w64 X k < dg w64 Y k) : wd X k < wd Y k := by unfold wd; omega

set_option maxRecDepth 100000 in
set_option maxHeartbeats 1000000 in
theorem cmp_calls (X Y : Nat) (hX : X < top) (hY : Y < top) (w : World) :
    Calls Tryd.prog 24 #[.agg #[.int .u64 (wd (X) 0), .int .u64 (wd (X) 1), .int .u64 (wd (X) 2), .int .u64 (wd (X) 3)], .agg #[.int .u64 (wd (Y) 0), .int .u64 (wd (Y) 1), .int .u64 (wd (Y) 2), .int .u64 (wd (Y) 3)]] w fun e w' => e = .returned (.int .i64 (cmpN X Y)) ∧ Below w.heap.size w w' := by
  go_enter Tryd.func24, Tryd.ntmps24
  go_wp2
  go_loopw [5] (fun i wr => ∃ k : Nat, k ≤ 4 ∧ i = .int .i64 ((k : Int) - 1) ∧ (∀ j, k ≤ j → j < 4 → dg w64 X j = dg w64 Y j) ∧ wr.rowIs w.heap.size 24 4 (fun j => .int .u64 (wd X j))
      ∧ wr.rowIs (w.heap.size + 1) 24 4 (fun j => .int .u64 (wd Y j)) ∧ Below w.heap.size w wr)
    (fun i _ => (intOf i + 1).toNat)
  case atStart => exact ⟨4, by omega, rfl, by intro j h1 h2; omega, (row_new (n := 4) (by simp) rfl (arr4 fun j => .int .u64 (wd X j))).alloc _, row_new (n := 4) (by simp) rfl (arr4 fun j => .int .u64 (wd Y j)), ((Below.refl _ _).alloc (by simp) _).alloc (by simp) _⟩
  case round =>
    obtain ⟨k, hk, hi, hall, hRX, hRY, hbel⟩ := hrel
    have HALL := veil hall
    clear hall
    cases k with
    | zero =>
      subst hi
      have hXY : X = Y := eq_of_dg_lt w64_pos hX hY fun j hj => HALL.out j (Nat.zero_le _) hj
      go_wp2
      go_ret
      have hc : cmpN X Y = 0 := by unfold cmpN; rw [if_neg (by omega), if_neg (by omega)]
      rw [hc]
      exact ⟨rfl, hbel⟩
    | succ m =>
      obtain rfl : _ = Value.int .i64 (m : Int) := hi.trans (by congr 1; omega)
      have hm : m < 4 := by omega
      go_wp2
      have c1 := hRX.cell hm
      have c2 := hRY.cell hm
      rcases Nat.lt_trichotomy (dg w64 X m) (dg w64 Y m) with h | h | h
      · have hlt := wd_cmp h
        have hne : (wd X m != wd Y m) = true := by rw [bne_iff_ne]; omega
        have hc : cmpN X Y = -1 := by rw [cmp_high w64 X Y 4 m w64_pos hX hY hm (fun j h1 h2 => HALL.out j (by omega) h2) (by omega), if_pos h]
        have HC := veil hc
        clear hc
        go_quiet (fail)
        go_wp2
        go_quiet ((go_at_call 39; exact quiet_more (compare_lt _ _ hlt _)))
        go_wp2
        go_ret
        rw [HC.out]
        exact ⟨rfl, below_drewN (below_drewN hbel _) _⟩
      · have hne : (wd X m != wd Y m) = false := by unfold wd; rw [h]; simp
        go_quiet (fail)
        go_wp2
        go_roundw
        case rel => exact ⟨m, by omega, by go_num, fun j h1 h2 => by
          by_cases e : j = m
          · rw [e]; exact h
          · exact HALL.out j (by omega) h2, row_drewN hRX _, row_drewN hRY _, below_drewN hbel _⟩
        case measure => simp [intOf]
      · have hlt := wd_cmp h
        have hne : (wd X m != wd Y m) = true := by rw [bne_iff_ne]; omega
        have hc : cmpN X Y = 1 := by rw [cmp_high w64 X Y 4 m w64_pos hX hY hm (fun j h1 h2 => HALL.out j (by omega) h2) (by omega), if_neg (by omega)]
        have HC := veil hc
        clear hc
        go_quiet (fail)
        go_wp2
        go_quiet ((go_at_call 39; exact quiet_more (compare_gt _ _ hlt _)))
        go_wp2
        go_ret
        rw [HC.out]
        exact ⟨rfl, below_drewN (below_drewN hbel _) _⟩
end Go.Proofs.YthgenmoiendakaaDoor


/-
  clapperref01.Cmp: the document's order.
-/
namespace Go.Proofs.YthgenmoiendakaaDoor
open Go.RowKit

theorem rcmp_bd (X Y k : Nat) : cmpN (X % w16 ^ k) (Y % w16 ^ k) = -1 ∨ cmpN (X % w16 ^ k) (Y % w16 ^ k) = 0 ∨ cmpN (X % w16 ^ k) (Y % w16 ^ k) = 1 := by
  unfold cmpN
  split
  · simp
  · split <;> simp

/-- Of the lowest k parts. -/
def cmpK (X Y k : Nat) : Int := cmpN (X % w16 ^ k) (Y % w16 ^ k)
theorem cmpK_lt {X Y k : Nat} (h : pt X k < pt Y k) : cmpK X Y (k + 1) = -1 := by
  unfold pt at h
  unfold cmpK
  rw [cmp_step _ _ _ _ w16_pos, if_pos (by omega)]
theorem cmpK_gt {X Y k : Nat} (h : pt Y k < pt X k) : cmpK X Y (k + 1) = 1 := by
  unfold pt at h
  unfold cmpK
  rw [cmp_step _ _ _ _ w16_pos, if_neg (by omega), if_pos (by omega)]
theorem cmpK_eq {X Y k : Nat} (h : pt X k = pt Y k) : cmpK X Y (k + 1) = cmpK X Y k := by
  unfold pt at h
  unfold cmpK
  rw [cmp_step _ _ _ _ w16_pos, if_neg (by omega), if_neg (by omega)]
theorem cmpK_top {X Y : Nat} (hX : X < top) (hY : Y < top) : cmpK X Y 16 = cmpN X Y := by
  rw [top_w16] at *
  unfold cmpK
  rw [Nat.mod_eq_of_lt hX, Nat.mod_eq_of_lt hY]

set_option maxRecDepth 100000 in
set_option maxHeartbeats 1000000 in
theorem rcmp_calls (X Y : Nat) (hX : X < top) (hY : Y < top) (w : World) :
    Calls Tryd.prog 15 #[.agg #[.int .u64 (wd (X) 0), .int .u64 (wd (X) 1), .int .u64 (wd (X) 2), .int .u64 (wd (X) 3)], .agg #[.int .u64 (wd (Y) 0), .int .u64 (wd (Y) 1), .int .u64 (wd (Y) 2), .int .u64 (wd (Y) 3)]] w fun e w' => e = .returned (.int .i64 (cmpN X Y)) ∧ Below w.heap.size w w' := by
  have hRB : ((w.alloc (.cells #[.int .u64 (wd (X) 0), .int .u64 (wd (X) 1), .int .u64 (wd (X) 2), .int .u64 (wd (X) 3)] 24)).alloc (.cells #[.int .u64 (wd (Y) 0), .int .u64 (wd (Y) 1), .int .u64 (wd (Y) 2), .int .u64 (wd (Y) 3)] 24)).rowIs (w.heap.size + 1) 24 4 (fun j => .int .u64 (wd Y j)) := row_new (n := 4) (by simp) rfl (arr4 fun j => .int .u64 (wd Y j))
  have hB0 : Below w.heap.size w ((w.alloc (.cells #[.int .u64 (wd (X) 0), .int .u64 (wd (X) 1), .int .u64 (wd (X) 2), .int .u64 (wd (X) 3)] 24)).alloc (.cells #[.int .u64 (wd (Y) 0), .int .u64 (wd (Y) 1), .int .u64 (wd (Y) 2), .int .u64 (wd (Y) 3)] 24)) := ((Below.refl _ _).alloc (by simp) _).alloc (by simp) _
  go_enter Tryd.func15, Tryd.ntmps15
  go_wp2_with fail
  refine (parts_calls X _).mono ?_
  rintro e w1 ⟨g1, cap1, rfl, hg1, hp1a, hb1⟩
  simp only [World.size_alloc] at hg1
  have hRB1 := row_below hRB hb1 (by simp)
  have hB1 := hB0.trans (hb1.mono (by simp; omega))
  clear hRB hB0 hb1
  obtain ⟨c0, c1, c2, c3⟩ := row_c4 hRB1
  go_wp2_with fail
  refine (parts_calls Y _).mono ?_
  rintro e w2 ⟨g2, cap2, rfl, hg2, hp2b, hb2⟩
  have hp1b := hp1a.below hb2 hp1a.lt
  have hB2 := hB1.trans (hb2.mono hB1.size)
  clear hRB1 hB1 hb2 c0 c1 c2 c3 hp1a hg2 hg1
  go_wp2
  go_loopw [7, 8] (fun c i wr => ∃ k : Nat, k ≤ 16 ∧ i = .int .i64 k ∧ c = .int .i64 (cmpK X Y k) ∧ Pre wr g1 3 16 (ptv X) ∧ Pre wr g2 3 16 (ptv Y) ∧ Below w.heap.size w wr)
    (fun _ i _ => 16 - (intOf i).toNat)
  case atStart => exact ⟨0, by omega, rfl, by simp [cmpK, cmpN, Nat.mod_one], hp1b, hp2b, hB2⟩
  case round =>
    clear hp1b hp2b hB2
    obtain ⟨k, hk, rfl, rfl, hp1, hp2, hbel⟩ := hrel
    by_cases hlt : k < 16
    · have c1 := hp1.cell hlt
      have c2 := hp2.cell hlt
      simp only [ptv] at c1 c2
      go_wp2
      rcases Int.lt_trichotomy (pt X k) (pt Y k) with h | h | h
      · have h2 : ¬ pt Y k < pt X k := by omega
        go_quiet (fail)
        go_wp2
        go_quiet (fail)
        go_wp2
        go_roundw
        case rel => exact ⟨k + 1, by omega, by go_num, by rw [cmpK_lt h], hp1.drewN _, hp2.drewN _, below_drewN hbel _⟩
        case measure => simp [intOf]; omega
      · have h1 : ¬ pt X k < pt Y k := by omega
        have h2 : ¬ pt Y k < pt X k := by omega
        have H := veil h
        clear h
        go_quiet (fail)
        go_wp2
        go_quiet (fail)
        go_wp2
        go_roundw
        case rel => exact ⟨k + 1, by omega, by go_num, by rw [cmpK_eq H.out], hp1.drewN _, hp2.drewN _, below_drewN hbel _⟩
        case measure => simp [intOf]; omega
      · have h1 : ¬ pt X k < pt Y k := by omega
        go_quiet (fail)
        go_wp2
        go_quiet (fail)
        go_wp2
        go_roundw
        case rel => exact ⟨k + 1, by omega, by go_num, by rw [cmpK_gt h], hp1.drewN _, hp2.drewN _, below_drewN hbel _⟩
        case measure => simp [intOf]; omega
    · obtain rfl : k = 16 := by omega
      go_wp2
      go_ret
      rw [← cmpK_top hX hY]
      exact ⟨rfl, hbel⟩
end Go.Proofs.YthgenmoiendakaaDoor


/-
  '==' between two arrays of words.
-/
namespace Go.Proofs.YthgenmoiendakaaDoor
open Go.RowKit

theorem run_items (d : Nat) (xs ys : Array Value) (A B : Nat → Int) (w : World) : ∀ is : List Nat, (∀ i ∈ is, xs[i]? = some (.int .u64 (A i))) → (∀ i ∈ is, ys[i]? = some (.int .u64 (B i))) →
    (Op.eqItems (d + 1) 22 1 xs ys is).run Tryd.prog w = .ok (is.all fun i => A i == B i) w
  | [], _, _ => by simp [Op.eqItems]
  | i :: is, hx, hy => by
    have e1 := run_part_plain (P := Tryd.prog) w (e := 22) (by kernel_rfl) (xs := xs) (off := i * 1) (v := .int .u64 (A i)) (by rw [Nat.mul_one]; exact hx i (by simp))
    have e2 := run_part_plain (P := Tryd.prog) w (e := 22) (by kernel_rfl) (xs := ys) (off := i * 1) (v := .int .u64 (B i)) (by rw [Nat.mul_one]; exact hy i (by simp))
    have e3 := run_equalIn_int (P := Tryd.prog) w d 22 .u64 .u64 (A i) (B i) Tryd.underlying22
    have ih := run_items d xs ys A B w is (fun j hj => hx j (by simp [hj])) (fun j hj => hy j (by simp [hj]))
    simp only [Op.eqItems, Sem.run_bind, e1, e2, e3, Result.andThen_ok]
    by_cases h : A i = B i
    · simp [h, ih]
    · simp [h]

theorem eql4 (f g : Nat → Int) (w : World) : (binOp .eql 24 (.agg #[.int .u64 (f 0), .int .u64 (f 1), .int .u64 (f 2), .int .u64 (f 3)]) (.agg #[.int .u64 (g 0), .int .u64 (g 1), .int .u64 (g 2), .int .u64 (g 3)])).run Tryd.prog w = .ok (.bool ((List.range 4).all fun i => f i == g i)) w := by
  obtain ⟨i, hi⟩ : ∃ i, Tryd.prog.info? 22 = some i := Option.isSome_iff_exists.1 (by kernel_rfl)
  have hc : Tryd.prog.cellsOf 22 = 1 := by kernel_rfl
  rw [run_eql_struct, run_equalIn_array (P := Tryd.prog) w 9999 _ _ Tryd.underlying24 hi, hc]
  rw [run_items 9998 _ _ f g w _ (fun j hj => arr4 (fun j => .int .u64 (f j)) j (by simpa using hj)) (fun j hj => arr4 (fun j => .int .u64 (g j)) j (by simpa using hj))]
  rfl
theorem eql8 (f g : Nat → Int) (w : World) : (binOp .eql 65 (.agg #[.int .u64 (f 0), .int .u64 (f 1), .int .u64 (f 2), .int .u64 (f 3), .int .u64 (f 4), .int .u64 (f 5), .int .u64 (f 6), .int .u64 (f 7)])
    (.agg #[.int .u64 (g 0), .int .u64 (g 1), .int .u64 (g 2), .int .u64 (g 3), .int .u64 (g 4), .int .u64 (g 5), .int .u64 (g 6), .int .u64 (g 7)])).run Tryd.prog w = .ok (.bool ((List.range 8).all fun i => f i == g i)) w := by
  obtain ⟨i, hi⟩ : ∃ i, Tryd.prog.info? 22 = some i := Option.isSome_iff_exists.1 (by kernel_rfl)
  have hc : Tryd.prog.cellsOf 22 = 1 := by kernel_rfl
  rw [run_eql_struct, run_equalIn_array (P := Tryd.prog) w 9999 _ _ Tryd.underlying65 hi, hc]
  rw [run_items 9998 _ _ f g w _ (fun j hj => arr8 (fun j => .int .u64 (f j)) j (by simpa using hj)) (fun j hj => arr8 (fun j => .int .u64 (g j)) j (by simpa using hj))]
  rfl

theorem all_wd (n X Y : Nat) : ((List.range n).all fun i => wd X i == wd Y i) = decide (X % w64 ^ n = Y % w64 ^ n) := by
  rw [Bool.eq_iff_iff]
  simp only [List.all_eq_true, List.mem_range, beq_iff_eq, decide_eq_true_eq]
  constructor
  · intro h
    exact eq_of_dg w64_pos n fun i hi => by have := h i hi; unfold wd at this; omega
  · intro h i hi
    unfold wd
    rw [← dg_mod X n i hi, ← dg_mod Y n i hi, h]

/-- '==' between two numbers. -/
theorem eql_num {X Y : Nat} (hX : X < top) (hY : Y < top) (w : World) : (binOp .eql 24 (.agg #[.int .u64 (wd (X) 0), .int .u64 (wd (X) 1), .int .u64 (wd (X) 2), .int .u64 (wd (X) 3)]) (.agg #[.int .u64 (wd (Y) 0), .int .u64 (wd (Y) 1), .int .u64 (wd (Y) 2), .int .u64 (wd (Y) 3)])).run Tryd.prog w = .ok (.bool (decide (X = Y))) w := by
  have h := eql4 (wd X) (wd Y) w
  rw [all_wd 4 X Y] at h
  have e : (X % w64 ^ 4 = Y % w64 ^ 4) = (X = Y) := by rw [Nat.mod_eq_of_lt (show X < w64 ^ 4 from hX), Nat.mod_eq_of_lt (show Y < w64 ^ 4 from hY)]
  simpa [e] using h
theorem eql_num_same (X : Nat) (w : World) : (binOp .eql 24 (.agg #[.int .u64 (wd (X) 0), .int .u64 (wd (X) 1), .int .u64 (wd (X) 2), .int .u64 (wd (X) 3)]) (.agg #[.int .u64 (wd (X) 0), .int .u64 (wd (X) 1), .int .u64 (wd (X) 2), .int .u64 (wd (X) 3)])).run Tryd.prog w = .ok (.bool true) w := by
  have h := eql4 (wd X) (wd X) w
  rw [all_wd 4 X X] at h
  simpa using h
theorem eql_lit (a b c d : Int) (w : World) : (binOp .eql 24 (.agg #[.int .u64 a, .int .u64 b, .int .u64 c, .int .u64 d]) (.agg #[.int .u64 a, .int .u64 b, .int .u64 c, .int .u64 d])).run Tryd.prog w = .ok (.bool true) w := by
  have h := eql4 (fun i => match i with | 0 => a | 1 => b | 2 => c | _ => d) (fun i => match i with | 0 => a | 1 => b | 2 => c | _ => d) w
  simp only [BEq.rfl] at h
  exact h
theorem eql_wide_same (X : Nat) (w : World) : (binOp .eql 65 (.agg #[.int .u64 (wd (X) 0), .int .u64 (wd (X) 1), .int .u64 (wd (X) 2), .int .u64 (wd (X) 3), .int .u64 (wd (X) 4), .int .u64 (wd (X) 5), .int .u64 (wd (X) 6), .int .u64 (wd (X) 7)]) (.agg #[.int .u64 (wd (X) 0), .int .u64 (wd (X) 1), .int .u64 (wd (X) 2), .int .u64 (wd (X) 3), .int .u64 (wd (X) 4), .int .u64 (wd (X) 5), .int .u64 (wd (X) 6), .int .u64 (wd (X) 7)])).run Tryd.prog w = .ok (.bool true) w := by
  have h := eql8 (wd X) (wd X) w
  rw [all_wd 8 X X] at h
  simpa using h
end Go.Proofs.YthgenmoiendakaaDoor


/-
  limb.Bit, clapperref01.Bit: a bit of a number.
-/
namespace Go.Proofs.YthgenmoiendakaaDoor
open Go.RowKit

/-- Bit i of X, for i from 0 to 255. -/
def bit (X n : Nat) : Bool := X / 2 ^ n % 2 == 1

theorem w64_two : w64 = 2 ^ 64 := by decide
theorem w16_two : w16 = 2 ^ 16 := by decide
theorem bit_dg (a n r m : Nat) (hr : r < m) : a / (2 ^ m) ^ n % 2 ^ m / 2 ^ r % 2 = a / 2 ^ (m * n + r) % 2 := by
  have h := dg_mod (B := 2) (a / (2 ^ m) ^ n) m r hr
  unfold dg at h
  rw [h, ← Nat.pow_mul, Nat.div_div_eq_div_mul, ← Nat.pow_add]
theorem bit_word (X n : Nat) : (bits BinOp.and IntKind.u64 (wd X (n / 64) / 2 ^ (n % 64)) 1 == 1) = bit X n := by
  have e : wd X (n / 64) / 2 ^ (n % 64) = ((dg w64 X (n / 64) / 2 ^ (n % 64) : Nat) : Int) := by
    unfold wd
    rw [Int.natCast_ediv]
    simp
  have hlt : dg w64 X (n / 64) / 2 ^ (n % 64) < 18446744073709551616 := Nat.lt_of_le_of_lt (Nat.div_le_self _ _) (dg_lt w64_pos X _)
  rw [e, show (1 : Int) = ((1 : Nat) : Int) from rfl, u64_and_nat _ _ hlt (by omega), Nat.and_one_is_mod]
  have h := bit_dg X (n / 64) (n % 64) 64 (Nat.mod_lt _ (by omega))
  rw [Nat.div_add_mod] at h
  unfold bit dg
  rw [w64_two, h]
  rw [Bool.eq_iff_iff]
  simp only [beq_iff_eq]
  omega
/-- What is left of a part behind k halvings. -/
def ph (X q k : Nat) : Int := ((dg w16 X q / 2 ^ k : Nat) : Int)
theorem ph_lo (X q k : Nat) : 0 ≤ ph X q k := Int.natCast_nonneg _
theorem ph_lt (X q k : Nat) : ph X q k < 65536 := by
  have h : dg w16 X q / 2 ^ k < 65536 := Nat.lt_of_le_of_lt (Nat.div_le_self _ _) (dg_lt w16_pos X q)
  unfold ph; omega
theorem ph_zero (X q : Nat) : ph X q 0 = pt X q := by simp [ph, pt]
theorem ph_succ (X q k : Nat) : ph X q (k + 1) = ph X q k / 2 := by
  unfold ph
  rw [Nat.pow_succ, ← Nat.div_div_eq_div_mul, Int.natCast_ediv]
  rfl
theorem ph_bit (X n : Nat) : (ph X (n / 16) (n % 16) % 2 == 1) = bit X n := by
  have h := bit_dg X (n / 16) (n % 16) 16 (Nat.mod_lt _ (by omega))
  rw [Nat.div_add_mod] at h
  unfold bit ph dg
  rw [w16_two, ← h]
  rw [Bool.eq_iff_iff]
  simp only [beq_iff_eq]
  omega

set_option maxRecDepth 100000 in
set_option maxHeartbeats 400000 in
theorem bit_out (X : Nat) (i : Int) (h : i < 0 ∨ 256 ≤ i) (w : World) :
    Calls Tryd.prog 53 #[.agg #[.int .u64 (wd (X) 0), .int .u64 (wd (X) 1), .int .u64 (wd (X) 2), .int .u64 (wd (X) 3)], .int .i64 i] w fun e w' => e = .returned (.bool false) ∧ Below w.heap.size w w' := by
  rcases h with h | h
  · go_enter Tryd.func53, Tryd.ntmps53
    go_wp2
    go_ret
    exact ⟨rfl, (Below.refl _ _).alloc (Nat.le_refl _) _⟩
  · have h' : ¬ i < 0 := by omega
    go_enter Tryd.func53, Tryd.ntmps53
    go_wp2
    go_ret
    exact ⟨rfl, (Below.refl _ _).alloc (Nat.le_refl _) _⟩

set_option maxRecDepth 100000 in
set_option maxHeartbeats 400000 in
theorem bit_in (X n : Nat) (hn : n < 256) (w : World) :
    Calls Tryd.prog 53 #[.agg #[.int .u64 (wd (X) 0), .int .u64 (wd (X) 1), .int .u64 (wd (X) 2), .int .u64 (wd (X) 3)], .int .i64 (n : Int)] w fun e w' => e = .returned (.bool (bit X n)) ∧ Below w.heap.size w w' := by
  have hq : n / 64 < 4 := by omega
  have h0 : ¬ (n : Int) < 0 := by omega
  have h1 : ¬ (256 : Int) ≤ (n : Int) := by omega
  have hR : (w.alloc (.cells #[.int .u64 (wd (X) 0), .int .u64 (wd (X) 1), .int .u64 (wd (X) 2), .int .u64 (wd (X) 3)] 24)).rowIs w.heap.size 24 4 (fun j => .int .u64 (wd X j)) := row_new (n := 4) (by simp) rfl (arr4 fun j => .int .u64 (wd X j))
  have c1 := hR.cell hq
  have l1 := wd_lo X (n / 64)
  have u1 := wd_le X (n / 64)
  clear hR
  go_enter Tryd.func53, Tryd.ntmps53
  go_wp2
  go_ret
  rw [← bit_word]
  exact ⟨rfl, (Below.refl _ _).alloc (Nat.le_refl _) _⟩

end Go.Proofs.YthgenmoiendakaaDoor


/-
  limb.Of: the number of bytes.
-/
namespace Go.Proofs.YthgenmoiendakaaDoor
open Go.RowKit

/-- The number of the lowest i bytes, z 0 the lowest. -/
def lev (z : Nat → Nat) : Nat → Nat
  | 0 => 0
  | i + 1 => lev z i + z i * 256 ^ i
theorem lev_lt {z : Nat → Nat} (hz : ∀ j, z j < 256) : ∀ i, lev z i < 256 ^ i
  | 0 => by simp [lev]
  | i + 1 => by
    have h := lev_lt hz i
    have h2 : z i * 256 ^ i ≤ 255 * 256 ^ i := Nat.mul_le_mul_right _ (by have := hz i; omega)
    show lev z i + z i * 256 ^ i < _
    rw [Nat.pow_succ]
    omega

theorem dg_put (m q r L c : Nat) (hr : r < m) (hL : L < 256 ^ (m * q + r)) (hc : c < 256) (j : Nat) :
    dg (256 ^ m) (L + c * 256 ^ (m * q + r)) j = if j = q then dg (256 ^ m) L j + c * 256 ^ r else dg (256 ^ m) L j := by
  have hB : 0 < 256 ^ m := Nat.pow_pos (by omega)
  have hp : ∀ k, 0 < (256 ^ m) ^ k := fun k => Nat.pow_pos hB
  have e : 256 ^ (m * q + r) = (256 ^ m) ^ q * 256 ^ r := by rw [Nat.pow_add, Nat.pow_mul]
  have hrm : 256 ^ r * 256 ≤ 256 ^ m := by rw [← Nat.pow_succ]; exact Nat.pow_le_pow_right (by omega) hr
  rw [e] at hL ⊢
  have hLq : L / (256 ^ m) ^ q < 256 ^ r := by rw [Nat.div_lt_iff_lt_mul (hp q), Nat.mul_comm]; exact hL
  have hcr : c * 256 ^ r ≤ 255 * 256 ^ r := Nat.mul_le_mul_right _ (by omega)
  rw [show c * ((256 ^ m) ^ q * 256 ^ r) = (256 ^ m) ^ q * (c * 256 ^ r) by rw [Nat.mul_left_comm]]
  by_cases hj : j = q
  · subst hj
    rw [if_pos rfl]
    unfold dg
    rw [Nat.add_mul_div_left _ _ (hp j), Nat.mod_eq_of_lt (by omega), Nat.mod_eq_of_lt (by omega)]
  · rw [if_neg hj]
    by_cases hlt : j < q
    · rw [← dg_mod _ q j hlt, Nat.add_mul_mod_self_left, dg_mod _ q j hlt]
    · have hjq : q + 1 ≤ j := by omega
      have hle : (256 ^ m) ^ (q + 1) ≤ (256 ^ m) ^ j := Nat.pow_le_pow_right hB hjq
      rw [Nat.pow_succ] at hle
      have h1 : (256 ^ m) ^ q * (256 ^ r + c * 256 ^ r) ≤ (256 ^ m) ^ q * 256 ^ m := Nat.mul_le_mul_left _ (by omega)
      rw [Nat.mul_add] at h1
      unfold dg
      rw [Nat.div_eq_of_lt (show L < _ by omega), Nat.div_eq_of_lt (show L + (256 ^ m) ^ q * (c * 256 ^ r) < _ by omega)]

theorem w64_bytes : w64 = 256 ^ 8 := by decide
theorem w16_bytes : w16 = 256 ^ 2 := by decide

theorem two_256 (r : Nat) : 2 ^ (r * 8) = 256 ^ r := by rw [Nat.mul_comm, Nat.pow_mul]
theorem wd_put (L c k j : Nat) (hL : L < 256 ^ k) (hc : c < 256) : wd (L + c * 256 ^ k) j = if j = k / 8 then wd L j + (c * 256 ^ (k % 8) : Nat) else wd L j := by
  have h := dg_put 8 (k / 8) (k % 8) L c (Nat.mod_lt _ (by omega)) (by rw [Nat.div_add_mod]; exact hL) hc j
  rw [Nat.div_add_mod, ← w64_bytes] at h
  unfold wd
  rw [h]
  split
  · rw [Int.natCast_add]
  · rfl
theorem of_word (L c k : Nat) (hL : L < 256 ^ k) (hc : c < 256) : bits .or .u64 (wd L (k / 8)) (IntKind.u64.wrap ((c : Int) * 2 ^ (k % 8 * 8))) = wd (L + c * 256 ^ k) (k / 8) := by
  have hr : k % 8 < 8 := Nat.mod_lt _ (by omega)
  have hp : 256 ^ (k % 8) ≤ 256 ^ 7 := Nat.pow_le_pow_right (by omega) (by omega)
  have h7 : (256 : Nat) ^ 7 = 72057594037927936 := by decide
  have hcr : c * 256 ^ (k % 8) ≤ 255 * 256 ^ (k % 8) := Nat.mul_le_mul_right _ (by omega)
  have hq : dg w64 L (k / 8) < 256 ^ (k % 8) := by
    have e : 256 ^ k = w64 ^ (k / 8) * 256 ^ (k % 8) := by
      rw [w64_bytes, ← Nat.pow_mul, ← Nat.pow_add, Nat.div_add_mod]
    unfold dg
    refine Nat.lt_of_le_of_lt (Nat.mod_le _ _) ?_
    rw [Nat.div_lt_iff_lt_mul (Nat.pow_pos w64_pos), Nat.mul_comm, ← e]
    exact hL
  have ec : (c : Int) * 2 ^ (k % 8 * 8) = ((c * 256 ^ (k % 8) : Nat) : Int) := by
    rw [← two_256, Int.natCast_mul, Int.natCast_pow]
    rfl
  rw [wd_put L c k _ hL hc, if_pos rfl, ec, IntKind.wrap_u64]
  unfold wd
  rw [show ((c * 256 ^ (k % 8) : Nat) : Int) % 18446744073709551616 = ((c * 256 ^ (k % 8) : Nat) : Int) by omega]
  rw [u64_or_nat _ _ (by omega) (by omega), Nat.or_comm, nat_join (8 * (k % 8)) _ _ (by rw [Nat.mul_comm 8, two_256]; exact Nat.mul_mod_left _ _) (by rw [Nat.mul_comm 8, two_256]; exact hq)]
  omega

theorem of_step (z : Nat → Nat) (k : Nat) (hz : ∀ j, z j < 256) (i : Nat) :
    (if i = k / 8 then Value.int .u64 (wd (lev z k + z k * 256 ^ k) (k / 8)) else Value.int .u64 (wd (lev z k) i)) = Value.int .u64 (wd (lev z (k + 1)) i) := by
  show _ = Value.int .u64 (wd (lev z k + z k * 256 ^ k) i)
  by_cases h : i = k / 8
  · rw [if_pos h, h]
  · rw [if_neg h, wd_put _ _ _ _ (lev_lt hz k) (hz k), if_neg h]
theorem wd_zero (i : Nat) : wd 0 i = 0 := by unfold wd dg; simp

set_option maxRecDepth 100000 in
set_option maxHeartbeats 1000000 in
theorem of_some (b o n c : Nat) (y : Nat → Nat) (hy : ∀ j, y j < 256) (hn : n ≤ 32) (w : World) (hb : b < w.heap.size) (hcell : ∀ j, j < n → w.cell? ⟨b, o + j, none⟩ = some (.int .u8 (y j))) :
    Calls Tryd.prog 30 #[.slice (some ⟨b, o, none⟩) n c] w fun e w' => e = .returned (.tuple #[.agg #[.int .u64 (wd (lev (fun k => y (n - 1 - k)) n) 0), .int .u64 (wd (lev (fun k => y (n - 1 - k)) n) 1), .int .u64 (wd (lev (fun k => y (n - 1 - k)) n) 2), .int .u64 (wd (lev (fun k => y (n - 1 - k)) n) 3)], .nilIface]) ∧ Below w.heap.size w w' := by
  have HY := veil hy
  have HC := veil hcell
  clear hy hcell
  have hn' : (n : Int) ≤ 32 := by omega
  go_enter Tryd.func30, Tryd.ntmps30
  go_wp2
  go_loopw [13] (fun i wr => ∃ k : Nat, k ≤ n ∧ i = .int .i64 k ∧ wr.rowIs w.heap.size 24 4 (fun _ => .int .u64 0) ∧ wr.rowIs (w.heap.size + 1) 24 4 (fun j => .int .u64 (wd (lev (fun k => y (n - 1 - k)) k) j)) ∧ Below w.heap.size w wr)
    (fun i _ => n - (intOf i).toNat)
  case atStart => exact ⟨0, by omega, rfl, (row_new (n := 4) rfl rfl (arr4 fun _ => .int .u64 0)).alloc _, (row_new (n := 4) (f := fun _ => .int .u64 0) (by simp) rfl (arr4 fun _ => .int .u64 0)).congr (fun i _ => by rw [lev, wd_zero]), ((Below.refl _ _).alloc (by simp) _).alloc (by simp) _⟩
  case round =>
    obtain ⟨k, hk, rfl, hR, hS, hbel⟩ := hrel
    by_cases hlt : k < n
    · have hk8 : k / 8 < 4 := by omega
      have c1 := hS.cell hk8
      have f1 := hS.frozen (k / 8)
      obtain ⟨j, hj⟩ : ∃ j, j = n - 1 - k := ⟨_, rfl⟩
      have hji : (n : Int) - 1 - (k : Int) = (j : Int) := by omega
      have hjn : (j : Int) < (n : Int) := by omega
      have hkn : (k : Int) < (n : Int) := by omega
      have c2 := (hbel.cell (p := ⟨b, o + j, none⟩) hb).trans (HC.out j (by omega))
      have l1 := wd_lo (lev (fun k => y (n - 1 - k)) k) (k / 8)
      have u1 := wd_le (lev (fun k => y (n - 1 - k)) k) (k / 8)
      have u2 : (y j : Int) ≤ 255 := by have := HY.out j; omega
      have hst := of_step (fun k => y (n - 1 - k)) k (fun j => HY.out _)
      have HS := veil hst
      clear hst
      have HJ := veil hj
      clear hj
      go_wp2
      go_region
      all_goals
        go_wp2
        go_roundw
        case rel =>
          rw [show y j = y (n - 1 - k) by rw [HJ.out], of_word _ _ _ (lev_lt (fun j => HY.out _) k) (HY.out _)]
          exact ⟨k + 1, by omega, by go_num, (row_far hR (by omega) _).drew, ((hS.set (k / 8) _).congr fun i _ => HS.out i).drew, (below_set hbel (by omega) _).drew⟩
        case measure => simp [intOf]; omega
    · obtain rfl : k = n := by omega
      obtain ⟨c0, c1, c2, c3⟩ := row_c4 hS
      obtain ⟨d0, d1, d2, d3⟩ := row_c4 hR
      obtain ⟨f0, f1, f2, f3⟩ := row_f4 hR
      go_wp2
      refine bodyPost_ret (results_cell_tmp2 rfl _ _ w.heap.size 24 #[.int .u64 (wd (lev (fun j => y (k - 1 - j)) k) 0), .int .u64 (wd (lev (fun j => y (k - 1 - j)) k) 1), .int .u64 (wd (lev (fun j => y (k - 1 - j)) k) 2), .int .u64 (wd (lev (fun j => y (k - 1 - j)) k) 3)] (0, 0) 4 22 rfl (blk4 (put4 hR fun j => .int .u64 (wd (lev (fun j => y (k - 1 - j)) k) j))) Tryd.underlying24 (by kernel_rfl)) rfl ⟨rfl, below_put4 hbel (Nat.le_refl _) _ _ _ _⟩

set_option maxRecDepth 100000 in
set_option maxHeartbeats 1000000 in
/-- Of no bytes: 0. -/
theorem of_none (A : Option Addr) (c : Nat) (w : World) :
    Calls Tryd.prog 30 #[.slice A 0 c] w fun e w' => e = .returned (.tuple #[.agg #[.int .u64 (wd (0) 0), .int .u64 (wd (0) 1), .int .u64 (wd (0) 2), .int .u64 (wd (0) 3)], .nilIface]) ∧ Below w.heap.size w w' := by
  simp only [wd_zero]
  go_enter Tryd.func30, Tryd.ntmps30
  go_wp2
  go_loopw [13] (fun i wr => i = .int .i64 0 ∧ wr.rowIs w.heap.size 24 4 (fun _ => .int .u64 0) ∧ wr.rowIs (w.heap.size + 1) 24 4 (fun _ => .int .u64 0) ∧ Below w.heap.size w wr)
    (fun _ _ => 0)
  case atStart => exact ⟨rfl, (row_new (n := 4) rfl rfl (arr4 fun _ => .int .u64 0)).alloc _, row_new (n := 4) (by simp) rfl (arr4 fun _ => .int .u64 0), ((Below.refl _ _).alloc (by simp) _).alloc (by simp) _⟩
  case round =>
    obtain ⟨rfl, hR, hS, hbel⟩ := hrel
    obtain ⟨c0, c1, c2, c3⟩ := row_c4 hS
    obtain ⟨d0, d1, d2, d3⟩ := row_c4 hR
    obtain ⟨f0, f1, f2, f3⟩ := row_f4 hR
    go_wp2
    refine bodyPost_ret (results_cell_tmp2 rfl _ _ w.heap.size 24 #[.int .u64 0, .int .u64 0, .int .u64 0, .int .u64 0] (0, 0) 4 22 rfl (blk4 (put4 hR fun _ => .int .u64 0)) Tryd.underlying24 (by kernel_rfl)) rfl ⟨rfl, below_put4 hbel (Nat.le_refl _) _ _ _ _⟩

set_option maxRecDepth 100000 in
set_option maxHeartbeats 1000000 in
/-- Of more than 32 bytes: ErrArg. -/
theorem of_big (A : Option Addr) (n c : Nat) (hn : 32 < n) (w : World) :
    Calls Tryd.prog 30 #[.slice A n c] w fun e w' => e = .returned (.tuple #[.agg #[.int .u64 (wd (0) 0), .int .u64 (wd (0) 1), .int .u64 (wd (0) 2), .int .u64 (wd (0) 3)], .iface 34 (.int .i64 1)]) ∧ Below w.heap.size w w' := by
  have hR : (w.alloc (.cells #[.int .u64 0, .int .u64 0, .int .u64 0, .int .u64 0] 24)).rowIs w.heap.size 24 4 (fun _ => .int .u64 0) := row_new (n := 4) rfl rfl (arr4 fun _ => .int .u64 0)
  have hi : (32 : Int) < (n : Int) := by omega
  clear hn
  simp only [wd_zero]
  go_enter Tryd.func30, Tryd.ntmps30
  go_wp2
  refine bodyPost_ret (results_cell_tmp2 rfl _ _ w.heap.size 24 #[.int .u64 0, .int .u64 0, .int .u64 0, .int .u64 0] (0, 0) 4 22 rfl (blk4 hR) Tryd.underlying24 (by kernel_rfl)) rfl ⟨rfl, (Below.refl _ _).alloc (Nat.le_refl _) _⟩
end Go.Proofs.YthgenmoiendakaaDoor


/-
  limb.Bytes: the bytes of a number.
-/
namespace Go.Proofs.YthgenmoiendakaaDoor
open Go.RowKit

/-- Byte i of X. -/
def byv (X i : Nat) : Int := (dg 256 X i : Nat)
theorem byv_lo (X i : Nat) : 0 ≤ byv X i := Int.natCast_nonneg _
theorem byv_le (X i : Nat) : byv X i ≤ 255 := by
  have := dg_lt (B := 256) (by omega) X i
  unfold byv; omega
theorem dg_byte (X m q r : Nat) (hr : r < m) : dg (256 ^ m) X q / 256 ^ r % 256 = dg 256 X (m * q + r) := by
  show dg 256 (X / (256 ^ m) ^ q % 256 ^ m) r = _
  rw [dg_mod _ m r hr, dg, dg, ← Nat.pow_mul, Nat.div_div_eq_div_mul, ← Nat.pow_add]
theorem byte_word (X k : Nat) : wd X (k / 8) / 2 ^ (k % 8 * 8) % 256 = byv X k := by
  have e : wd X (k / 8) / 2 ^ (k % 8 * 8) = ((dg w64 X (k / 8) / 256 ^ (k % 8) : Nat) : Int) := by
    unfold wd
    rw [← two_256, Int.natCast_ediv]
    simp
  rw [e]
  have h := dg_byte X 8 (k / 8) (k % 8) (Nat.mod_lt _ (by omega))
  rw [Nat.div_add_mod, ← w64_bytes] at h
  unfold byv
  omega
theorem bytes_step {X k j : Nat} (hk : k < 32) (hj : j = 31 - k) : ∀ i, i < 32 → (if i = j then Value.int .u8 (byv X k) else Value.int .u8 (if 32 ≤ i + k then byv X (31 - i) else 0)) = Value.int .u8 (if 32 ≤ i + (k + 1) then byv X (31 - i) else 0) := by
  intro i hi
  by_cases h : i = j
  · rw [if_pos h, if_pos (by omega), show 31 - i = k by omega]
  · rw [if_neg h]
    by_cases h2 : 32 ≤ i + k
    · rw [if_pos h2, if_pos (by omega)]
    · rw [if_neg h2, if_neg (by omega)]
theorem infoByte : (Tryd.prog.info? 5).map (fun i => (i.zero, i.size, i.bytes)) = some (some (.int .u8 0), 1, 1) := by kernel_rfl

theorem row_filled {w : World} {z : Value} {n b t : Nat} (hb : b = w.heap.size) : (w.alloc (.cells (madeCells #[z] n) t)).rowIs b t n (fun _ => z) := by
  subst hb
  exact World.rowIs_made w z n t

set_option maxRecDepth 100000 in
set_option maxHeartbeats 1000000 in
theorem bytes_calls (X : Nat) (w : World) :
    Calls Tryd.prog 26 #[.agg #[.int .u64 (wd (X) 0), .int .u64 (wd (X) 1), .int .u64 (wd (X) 2), .int .u64 (wd (X) 3)]] w fun e w' => ∃ g, e = .returned (.slice (some ⟨g, 0, none⟩) 32 32) ∧ w.heap.size ≤ g ∧ w'.rowIs g 5 32 (fun j => .int .u8 (byv X (31 - j))) ∧ Below w.heap.size w w' := by
  obtain ⟨i0, hi, hz0, hz1, hz2⟩ := info_parts infoByte
  have hmk : ∀ W : World, (Instr.makeSlice 40 (.int .i64 32) (.int .i64 32)).run Tryd.prog W = .ok (.slice (some ⟨W.heap.size, 0, none⟩) 32 32) (W.alloc (.cells (madeCells #[.int .u8 0] 32) 5)) :=
    fun W => run_make_row 40 5 i0 (.int .u8 0) Tryd.underlying40 hi hz0 hz1 rfl .i64 .i64 32 (by rw [hz2]; omega) (by omega) W
  go_enter Tryd.func26, Tryd.ntmps26
  go_wp2
  go_loopw [6] (fun i wr => ∃ k : Nat, k ≤ 32 ∧ i = .int .i64 k ∧ wr.rowIs w.heap.size 24 4 (fun j => .int .u64 (wd X j)) ∧ wr.rowIs (w.heap.size + 1) 5 32 (fun j => .int .u8 (if 32 ≤ j + k then byv X (31 - j) else 0)) ∧ Below w.heap.size w wr)
    (fun i _ => 32 - (intOf i).toNat)
  case atStart => exact ⟨0, by omega, rfl, (row_new (n := 4) rfl rfl (arr4 fun j => .int .u64 (wd X j))).alloc _, (row_filled (w := w.alloc (.cells #[.int .u64 (wd (X) 0), .int .u64 (wd (X) 1), .int .u64 (wd (X) 2), .int .u64 (wd (X) 3)] 24)) (z := .int .u8 0) (by simp)).congr (fun i hi => by rw [if_neg (by omega)]), ((Below.refl _ _).alloc (by simp) _).alloc (by simp) _⟩
  case round =>
    obtain ⟨k, hk, rfl, hR, hS, hbel⟩ := hrel
    by_cases hlt : k < 32
    · have c1 := hR.cell (i := k / 8) (by omega)
      obtain ⟨j, hj⟩ : ∃ j, j = 31 - k := ⟨_, rfl⟩
      have hji : (31 : Int) - (k : Int) = (j : Int) := by omega
      have hjn : (j : Int) < (32 : Int) := by omega
      have c2 := hS.cell (i := j) (by omega)
      have f2 := hS.frozen j
      have l1 := wd_lo X (k / 8)
      have u1 := wd_le X (k / 8)
      have HJ := veil hj
      clear hj
      go_wp2
      go_roundw
      case rel =>
        rw [byte_word]
        exact ⟨k + 1, by omega, by go_num, row_far hR (by omega) _, (hS.set j _).congr (bytes_step hlt HJ.out), below_set hbel (by omega) _⟩
      case measure => simp [intOf]; omega
    · obtain rfl : k = 32 := by omega
      go_wp2
      go_ret
      exact ⟨_, rfl, by omega, hS.congr (fun i hi => by rw [if_pos (by omega)]), hbel⟩
end Go.Proofs.YthgenmoiendakaaDoor


/-
  Arrays by a function of the index; laws for loads and stores of whole rows, in order and in regions that draw their order; what a region keeps.
-/
namespace Go.Proofs.YthgenmoiendakaaDoor
open Go.RowKit

/-- An array of n cells, cell i being 'f i'. -/
def arrOf (n : Nat) (f : Nat → Value) : Array Value := ((List.range n).map f).toArray
theorem arrOf_size (n : Nat) (f : Nat → Value) : (arrOf n f).size = n := by simp [arrOf]
theorem arrOf_get {n : Nat} (f : Nat → Value) {i : Nat} (hi : i < n) : (arrOf n f)[i]? = some (f i) := by simp [arrOf, hi]
theorem eq_arrOf {n : Nat} {f : Nat → Value} {cs : Array Value} (hn : cs.size = n) (h : ∀ i, i < n → cs[i]? = some (f i)) : cs = arrOf n f := by
  apply Array.ext_getElem?
  intro i
  by_cases hi : i < n
  · rw [h i hi, arrOf_get f hi]
  · rw [Array.getElem?_eq_none (by omega), Array.getElem?_eq_none (by rw [arrOf_size]; omega)]
theorem arrOf_congr {n : Nat} {f g : Nat → Value} (h : ∀ i, i < n → f i = g i) : arrOf n f = arrOf n g :=
  eq_arrOf (arrOf_size n f) fun i hi => by rw [arrOf_get f hi, h i hi]
theorem arrOf_one {n : Nat} {f : Nat → Value} (h : ∀ i, i < n → (f i).oneCell' = true) : (arrOf n f).all (·.oneCell') = true := by
  rw [Array.all_eq_true_iff_forall_mem]
  intro v hv
  simp [arrOf] at hv
  obtain ⟨i, hi, rfl⟩ := hv
  exact h i hi
section
variable {w w' : World} {b t n B : Nat} {f : Nat → Value}
theorem blkOf (h : w.rowIs b t n f) : w.heap[b]? = some (.cells (arrOf n f) t (0, 0)) := by
  obtain ⟨c, hb, hn, hc⟩ := h
  rw [hb, eq_arrOf hn hc]
theorem row_made (w : World) (n t : Nat) (f : Nat → Value) {g : Nat} (hg : g = w.heap.size) : (w.alloc (.cells (arrOf n f) t)).rowIs g t n f :=
  row_new hg (arrOf_size n f) fun _ hi => arrOf_get f hi
theorem row_setRow {a : Array Value} (h : w.rowIs b t n f) (hn : a.size = n) {g : Nat → Value} (hg : ∀ i, i < n → a[i]? = some (g i)) : (w.setRow b a).rowIs b t n g := by
  obtain ⟨c, hb, _, _⟩ := h
  exact ⟨a, setRow_heap w b c a t (0, 0) hb, hn, hg⟩
theorem setRow_far (w : World) {b b' : Nat} (a : Array Value) (hne : b ≠ b') : (w.setRow b' a).heap[b]? = w.heap[b]? := by
  simp only [World.setRow, Array.getElem?_modify]
  rw [if_neg (by omega)]
end

/-- An array by value at an index: elements of one cell. -/
theorem run_index_arr {P : Program} {t e n i : Nat} {cs : Array Value} {v : Value} (hu : P.underlying t = some (.array n e)) (hs : (P.info? e).map (·.size) = some 1)
    (hp : ∀ w, (part e cs i).run P w = .ok v w) (hi : i < n) (k : IntKind) (w : World) : (Instr.index t (.agg cs) (.int k (i : Int))).run P w = .ok v w := by
  cases hq : P.info? e with
  | none => simp [hq] at hs
  | some inf =>
    have hz : inf.size = 1 := by simpa [hq] using hs
    simp [Instr.index, asIntOf, Sem.run_bind, run_underlying hu w, hi, sizeOf, typeInfo, hq, hz, hp, Result.andThen_ok]
/-- The operation that writes slot n stands next. -/
theorem at_slot (n : Nat) {P : Program} {ops : Array Oper} {Q : Exit → Act → World → Prop} {rest : List Oper} {a : Act} {w : World} {op : Op} {ty : TypeId} {pos : String} {af : Array Edge} {g : Option (Tmp × Bool)}
    (h : wpList P ops Q (⟨some n, op, ty, pos, af, g⟩ :: rest) a w) : wpList P ops Q (⟨some n, op, ty, pos, af, g⟩ :: rest) a w := h
/-- A store stands next. -/
theorem at_none {P : Program} {ops : Array Oper} {Q : Exit → Act → World → Prop} {rest : List Oper} {a : Act} {w : World} {op : Op} {ty : TypeId} {pos : String} {af : Array Edge} {g : Option (Tmp × Bool)}
    (h : wpList P ops Q (⟨none, op, ty, pos, af, g⟩ :: rest) a w) : wpList P ops Q (⟨none, op, ty, pos, af, g⟩ :: rest) a w := h
theorem below_setRow {B b : Nat} {a w : World} (h : Below B a w) (hb : B ≤ b) (cs : Array Value) : Below B a (w.setRow b cs) :=
  ⟨h.os, h.tape, h.output, by simpa [World.setRow] using h.size, fun k hk => (setRow_far w cs (by omega)).trans (h.block k hk)⟩

/-- All but block r, and new ones, is as it was. -/
abbrev But (r : Nat) (w w' : World) : Prop := w.grownBy w' (some r)
section
variable {w w' w'' : World} {r : Nat}
theorem But.refl (r : Nat) (w : World) : But r w w := ⟨rfl, rfl, rfl, Nat.le_refl _, fun _ _ _ => rfl⟩
theorem But.trans (h : But r w w') (k : But r w' w'') : But r w w'' :=
  ⟨k.os.trans h.os, k.tape.trans h.tape, k.output.trans h.output, Nat.le_trans h.size k.size, fun i hi hne => (k.block i (Nat.lt_of_lt_of_le hi h.size) hne).trans (h.block i hi hne)⟩
theorem But.below (h : But r w w') (k : Below w'.heap.size w' w'') : But r w w'' :=
  h.trans ⟨k.os, k.tape, k.output, k.size, fun i hi _ => k.block i hi⟩
theorem But.of_below (k : Below w.heap.size w w') : But r w w' := (But.refl r w).below k
theorem But.set (h : But r w w') (i : Nat) (v : Value) : But r w (w'.setCell ⟨r, i, none⟩ v) :=
  h.trans ⟨rfl, rfl, rfl, by simp [World.setCell], fun k _ hne => Below.heap_setCell _ _ _ _ (by simpa using hne)⟩
theorem But.alloc (h : But r w w') (o : Obj) : But r w (w'.alloc o) := h.below ((Below.refl _ _).alloc (Nat.le_refl _) o)
theorem But.drew (h : But r w w') : But r w w'.drew := ⟨h.os, h.tape, h.output, h.size, h.block⟩
theorem But.drewN (h : But r w w') (k : Nat) : But r w (w'.drewN k) := ⟨h.os, h.tape, h.output, h.size, h.block⟩
theorem But.bound (h : But r w w') : w.heap.size ≤ w'.heap.size := h.size
/-- A store into a block that is new. -/
theorem But.far {b i : Nat} (h : But r w w') (hb : w.heap.size ≤ b) (v : Value) : But r w (w'.setCell ⟨b, i, none⟩ v) :=
  ⟨h.os, h.tape, h.output, by simpa [World.setCell] using h.size, fun k hk hne => (Below.heap_setCell _ _ _ _ (by show k ≠ b; omega)).trans (h.block k hk hne)⟩
/-- Where the block itself is new, all is as it was. -/
theorem But.new {B : Nat} (h : But r w w') (hr : B ≤ r) (hB : B ≤ w.heap.size) : Below B w w' :=
  ⟨h.os, h.tape, h.output, h.size, fun k hk => h.block k (by omega) (by simp; omega)⟩
theorem row_but {b t n : Nat} {f : Nat → Value} (h : w.rowIs b t n f) (k : But r w w') (hne : b ≠ r) : w'.rowIs b t n f := h.of_block (k.block b h.lt (by simpa using hne))
end

/-! ### steps of a region that draws its order -/
theorem at_slotR (n : Nat) {P : Program} {ops : Array Oper} {K : Act → World → Prop} {Q : Exit → Act → World → Prop} {E : Prop} {a : Act} {w : World} {op : Op} {ty : TypeId} {pos : String} {af : Array Edge} {g : Option (Tmp × Bool)}
    (h : if Region.wanted { dst := some n, op := op, type := ty, pos := pos, after := af, guard := g } (yielded ops a.tmps) = true then Oper.wp P { dst := some n, op := op, type := ty, pos := pos, after := af, guard := g } a w K Q else E) :
    if Region.wanted { dst := some n, op := op, type := ty, pos := pos, after := af, guard := g } (yielded ops a.tmps) = true then Oper.wp P { dst := some n, op := op, type := ty, pos := pos, after := af, guard := g } a w K Q else E := h
theorem at_noneR {P : Program} {ops : Array Oper} {K : Act → World → Prop} {Q : Exit → Act → World → Prop} {E : Prop} {a : Act} {w : World} {op : Op} {ty : TypeId} {pos : String} {af : Array Edge} {g : Option (Tmp × Bool)}
    (h : if Region.wanted { dst := none, op := op, type := ty, pos := pos, after := af, guard := g } (yielded ops a.tmps) = true then Oper.wp P { dst := none, op := op, type := ty, pos := pos, after := af, guard := g } a w K Q else E) :
    if Region.wanted { dst := none, op := op, type := ty, pos := pos, after := af, guard := g } (yielded ops a.tmps) = true then Oper.wp P { dst := none, op := op, type := ty, pos := pos, after := af, guard := g } a w K Q else E := h
theorem step_store_row {P : Program} {ops : Array Oper} {o : Oper} {a : Act} {w : World} {K : Act → World → Prop} {Q : Exit → Act → World → Prop} {E : Prop} (hgd : o.guard = none) (ty : TypeId) (x y : Operand) (ho : o.op = .store ty x y)
    (g : Nat) (cells : Array Value) (hx : a.eval x = .pointer (some ⟨g, 0, none⟩)) (hy : a.eval y = .agg cells)
    (t : TypeId) (old : Array Value) (hg : w.heap[g]? = some (.cells old t (0, 0))) (hi : (P.info? ty).map (·.size) = some cells.size)
    (hold : old.size = cells.size) (h1 : cells.all (·.oneCell') = true)
    (h : K (a.put o.dst undef) (w.setRow g cells)) : if Region.wanted o (yielded ops a.tmps) = true then Oper.wp P o a w K Q else E := by
  rw [if_pos (by simp [Region.wanted, hgd])]
  exact wp_store_row ty x y ho g cells hx hy t old hg hi hold h1 h
theorem step_load_row {P : Program} {ops : Array Oper} {o : Oper} {a : Act} {w : World} {K : Act → World → Prop} {Q : Exit → Act → World → Prop} {E : Prop} (hgd : Region.wanted o (yielded ops a.tmps) = true) (ty : TypeId) (x : Operand) (ho : o.op = .load ty x)
    (g : Nat) (hx : a.eval x = .pointer (some ⟨g, 0, none⟩)) (t : TypeId) (cs : Array Value) (fr : Nat × Nat) (d : TypeDesc) (hg : w.heap[g]? = some (.cells cs t fr))
    (hu : P.underlying ty = some d) (hd : (match d with | .struct _ | .array _ _ => true | _ => false) = true) (hi : (P.info? ty).map (·.size) = some cs.size)
    (h : K (a.put o.dst (.agg cs)) w) : if Region.wanted o (yielded ops a.tmps) = true then Oper.wp P o a w K Q else E := by
  rw [if_pos hgd]
  exact wp_load_row ty x ho g hx t cs fr d hg hu hd hi h

/-! ### what such a region keeps: a range of cells, and all blocks but one -/
theorem range_block {W W' : World} {g : Nat} {L : List Value} (h : W.rangeAt g 0 L) (e : W'.heap[g]? = W.heap[g]?) : W'.rangeAt g 0 L := fun j v hv => (World.cell?_of_block (a := ⟨g, 0 + j, none⟩) e).trans (h j v hv)
theorem keepC {w5 W W' : World} {g gR : Nat} {L : List Value} (hb : Below W.heap.size W W') (hg : g < W.heap.size) (h : W.rangeAt g 0 L ∧ But gR w5 W) : W'.rangeAt g 0 L ∧ But gR w5 W' :=
  ⟨range_block h.1 (hb.block g hg), h.2.below hb⟩
theorem keepA {w5 W : World} {g gR : Nat} {L : List Value} {o : Obj} (hg : g < W.heap.size) (h : W.rangeAt g 0 L ∧ But gR w5 W) : (W.alloc o).rangeAt g 0 L ∧ But gR w5 (W.alloc o) :=
  ⟨range_block h.1 (Below.heap_alloc _ _ _ hg), h.2.alloc o⟩
theorem keepD {w5 W : World} {g gR : Nat} {L : List Value} (h : W.rangeAt g 0 L ∧ But gR w5 W) : W.drew.rangeAt g 0 L ∧ But gR w5 W.drew := ⟨h.1, h.2.drew⟩
theorem row_setCells {b t n : Nat} : ∀ (vs : List Value) (o : Nat) (w : World) (f : Nat → Value), w.rowIs b t n f → (w.setCells b o vs).rowIs b t n (fun j => if o ≤ j ∧ j < o + vs.length then vs.getD (j - o) undef else f j)
  | [], o, w, f, h => h.congr fun j _ => by rw [if_neg (by simp only [List.length_nil]; omega)]
  | v :: r, o, w, f, h => (row_setCells r (o + 1) _ _ (h.set o v)).congr fun j _ => by
    simp only [List.length_cons]
    by_cases h1 : j = o
    · subst h1
      rw [if_neg (by omega), if_pos rfl, if_pos (by omega), Nat.sub_self]; rfl
    · rw [if_neg h1]
      by_cases h2 : o + 1 ≤ j ∧ j < o + 1 + r.length
      · rw [if_pos h2, if_pos (by omega), show j - o = (j - (o + 1)) + 1 by omega]; rfl
      · rw [if_neg h2, if_neg (by omega)]
theorem blk_setCells {w : World} {b t n : Nat} {f : Nat → Value} (h : w.rowIs b t n f) {F : Array Value} (hF : F.size = n) : (w.setCells b 0 F.toList).heap[b]? = some (.cells F t (0, 0)) := by
  rw [blkOf (row_setCells F.toList 0 w f h)]
  congr 2
  refine (eq_arrOf hF fun i hi => ?_).symm
  have hi' : i < F.size := by omega
  rw [if_pos ⟨by omega, by simp; omega⟩, Nat.sub_zero, List.getD_eq_getElem?_getD]
  simp [hi']
theorem But.setCells {r : Nat} {w0 : World} : ∀ (vs : List Value) (o : Nat) (w : World), But r w0 w → But r w0 (w.setCells r o vs)
  | [], _, _, h => h
  | v :: l, o, _, h => But.setCells l (o + 1) _ (h.set o v)
theorem keepS {w5 W : World} {g gR : Nat} {L cs : List Value} (hne : g ≠ gR) (h : W.rangeAt g 0 L ∧ But gR w5 W) : (W.setCells gR 0 cs).rangeAt g 0 L ∧ But gR w5 (W.setCells gR 0 cs) :=
  ⟨World.rangeAt_setCells_apart h.1 gR 0 cs (.inl hne), But.setCells cs 0 W h.2⟩
theorem there_row {w : World} {b t n m : Nat} {f : Nat → Value} (h : w.rowIs b t n f) (hm : m = n) : w.there b 0 m := fun j hj => by
  rw [Nat.zero_add, h.cell (by omega)]
  exact ⟨rfl, h.frozen j⟩
theorem keepR {w5 W : World} {g gR : Nat} {L : List Value} {cs : Array Value} (hne : g ≠ gR) (h : W.rangeAt g 0 L ∧ But gR w5 W) : (W.setRow gR cs).rangeAt g 0 L ∧ But gR w5 (W.setRow gR cs) :=
  ⟨range_block h.1 (setRow_far W cs hne), ⟨h.2.os, h.2.tape, h.2.output, by simpa [World.setRow] using h.2.size, fun k hk hne' => (setRow_far W cs (by simpa using hne')).trans (h.2.block k hk hne')⟩⟩

/-! ### what a region keeps that stores into one block in the end -/
/-- All but block r is as it was, and that one is a row. -/
def Bt (r t n : Nat) (wz W : World) : Prop := But r wz W ∧ ∃ f, W.rowIs r t n f
section
variable {r t n : Nat} {wz W W' : World}
theorem Bt.of {f : Nat → Value} (h : W.rowIs r t n f) (hb : But r wz W) : Bt r t n wz W := ⟨hb, f, h⟩
theorem Bt.call (h : Bt r t n wz W) (hb : Below W.heap.size W W') : Bt r t n wz W' := by
  obtain ⟨h1, f, h2⟩ := h
  exact ⟨h1.below hb, f, row_below h2 hb h2.lt⟩
theorem Bt.alloc (h : Bt r t n wz W) (o : Obj) : Bt r t n wz (W.alloc o) := by
  obtain ⟨h1, f, h2⟩ := h
  exact ⟨h1.alloc o, f, h2.alloc o⟩
theorem Bt.drew (h : Bt r t n wz W) : Bt r t n wz W.drew := ⟨h.1.drew, h.2⟩
theorem Bt.set (h : Bt r t n wz W) (i : Nat) (v : Value) : Bt r t n wz (W.setCell ⟨r, i, none⟩ v) := by
  obtain ⟨h1, f, h2⟩ := h
  exact ⟨h1.set i v, _, h2.set i v⟩
theorem Bt.far (h : Bt r t n wz W) {b i : Nat} (hb : wz.heap.size ≤ b) (hne : r ≠ b) (v : Value) : Bt r t n wz (W.setCell ⟨b, i, none⟩ v) := by
  obtain ⟨h1, f, h2⟩ := h
  exact ⟨h1.far hb v, f, row_far h2 hne v⟩
theorem Bt.setCells (h : Bt r t n wz W) (o : Nat) (vs : List Value) : Bt r t n wz (W.setCells r o vs) := by
  obtain ⟨h1, f, h2⟩ := h
  exact ⟨But.setCells vs o W h1, _, row_setCells vs o W f h2⟩
theorem Bt.setRow (h : Bt r t n wz W) {cs : Array Value} (hs : cs.size = n) : Bt r t n wz (W.setRow r cs) := by
  obtain ⟨h1, f, h2⟩ := h
  exact ⟨⟨h1.os, h1.tape, h1.output, by simpa [World.setRow] using h1.size, fun k hk hne' => (setRow_far W cs (by simpa using hne')).trans (h1.block k hk hne')⟩, fun i => (cs[i]?).getD undef, row_setRow h2 hs fun i hi => by
    have : i < cs.size := by omega
    simp [this]⟩
theorem Bt.cell (h : Bt r t n wz W) {b o : Nat} (hb : b < wz.heap.size) (hne : b ≠ r) : W.cell? ⟨b, o, none⟩ = wz.cell? ⟨b, o, none⟩ := World.cell?_of_block (a := ⟨b, o, none⟩) (h.1.block b hb (by simpa using hne))
theorem Bt.range (h : Bt r t n wz W) {b : Nat} {L : List Value} (hb : b < wz.heap.size) (hne : b ≠ r) (hl : wz.rangeAt b 0 L) : W.rangeAt b 0 L := range_block hl (h.1.block b hb (by simpa using hne))
theorem Bt.there (h : Bt r t n wz W) {m : Nat} (hm : m = n) : W.there r 0 m := by
  obtain ⟨_, f, h2⟩ := h
  exact there_row h2 hm
theorem Bt.frozen (h : Bt r t n wz W) (i : Nat) : W.frozen? ⟨r, i, none⟩ = false := by
  obtain ⟨_, f, h2⟩ := h
  exact h2.frozen i
theorem Bt.below {B : Nat} (h : Bt r t n wz W) (hr : B ≤ r) (hB : B ≤ wz.heap.size) : Below B wz W := h.1.new hr hB
end
end Go.Proofs.YthgenmoiendakaaDoor


/-
  A slice that the call owns, its cells by a function of the index: one element of one cell; what is appended lies anywhere, or is nothing.
-/
namespace Go.Proofs.YthgenmoiendakaaDoor
open Go.RowKit

/-- v is a slice of n elements f 0, f 1 .. of type e, its own block from 'base' on (or nil). -/
def Own (w : World) (base e : Nat) (v : Value) (n : Nat) (f : Nat → Value) : Prop := w.ownsRow base e 1 v n ((List.range n).map f)
section
variable {w w' : World} {base e n : Nat} {v : Value} {f h : Nat → Value}
theorem Own.congr (o : Own w base e v n f) (hf : ∀ i, i < n → f i = h i) : Own w base e v n h := by
  unfold Own at *
  have : (List.range n).map f = (List.range n).map h := List.map_congr_left fun i hi => hf i (by simpa using hi)
  rw [← this]; exact o
theorem Own.nil (w : World) (base e : Nat) (f : Nat → Value) : Own w base e (.slice none 0 0) 0 f := World.ownsRow_nil _ _ _ _
theorem Own.made (w : World) {cs : Array Value} {base : Nat} (hb : base ≤ w.heap.size) (hm : cs.size ≤ maxLen) (hf : ∀ i, i < cs.size → cs[i]? = some (f i)) :
    Own (w.alloc (.cells cs e)) base e (.slice (some ⟨w.heap.size, 0, none⟩) cs.size cs.size) cs.size f := by
  refine ⟨by simp, .inr ⟨w.heap.size, cs.size, cs, rfl, hb, heap_alloc_new w _, Nat.le_refl _, hm, by simp, ?_⟩⟩
  rw [Nat.mul_one, List.take_of_length_le (by simp)]
  apply List.ext_getElem?
  intro i
  by_cases hi : i < cs.size
  · simp [hi]; have := hf i hi; simpa [hi] using this
  · simp [hi]
theorem Own.alloc (o : Own w base e v n f) (ob : Obj) : Own (w.alloc ob) base e v n f := World.ownsRow.alloc o ob
theorem Own.drew (o : Own w base e v n f) : Own w.drew base e v n f := o
theorem Own.drewN (o : Own w base e v n f) (k : Nat) : Own (w.drewN k) base e v n f := o
theorem Own.lt (o : Own w base e v n f) {k : Nat} (hk : v.ownBlock = some k) : base ≤ k ∧ k < w.heap.size := World.ownsRow.lt o k hk
theorem Own.kept {row : Option Nat} (o : Own w base e v n f) (hg : w.grownBy w' row) (hne : v.ownBlock = none ∨ v.ownBlock ≠ row) : Own w' base e v n f := World.ownsRow.kept o hg hne
theorem Own.below {B : Nat} (o : Own w base e v n f) (hb : Below B w w') (hB : w.heap.size ≤ B) : Own w' base e v n f := by
  refine ⟨o.1, ?_⟩
  rcases o.2 with hn | ⟨g, cap, cur, rfl, hbg, hh, rest⟩
  · exact .inl hn
  · exact .inr ⟨g, cap, cur, rfl, hbg, (hb.block g (by have := (Array.getElem?_eq_some_iff.1 hh).1; omega)).trans hh, rest⟩
theorem Own.base_le {base' : Nat} (o : Own w base e v n f) (hb : base' ≤ base) : Own w base' e v n f :=
  ⟨o.1, o.2.elim .inl fun ⟨g, cap, cur, hv, hg, r⟩ => .inr ⟨g, cap, cur, hv, Nat.le_trans hb hg, r⟩⟩
/-- It lies in a block, if it has an element. -/
theorem Own.pre (o : Own w base e v n f) (hn : 0 < n) : ∃ g cap, v = .slice (some ⟨g, 0, none⟩) n cap ∧ n ≤ cap ∧ base ≤ g ∧ Pre w g e n f := Pre.of_own o hn
end

/-- The cells that are appended: m of them, y 0, y 1 ..; anywhere; or nothing. -/
def From (w : World) (A : Option Addr) (m : Nat) (y : Nat → Value) : Prop := m = 0 ∨ ∃ ad, A = some ad ∧ ∀ j, j < m → w.cell? (ad.add j) = some (y j)
theorem own_append {P : Program} (w : World) (base t ty e : Nat) (i : TypeInfo) (z : Value) (bytes : Nat) (ht : P.underlying t = some (.slice e)) (hi : P.info? e = some i) (hz : i.zero = some z) (hsize : i.size = 1) (hby : i.bytes = bytes) (hzs : z.cells.size = 1)
    (v : Value) (n : Nat) (f : Nat → Value) (hown : Own w base e v n f) (A : Option Addr) (m c : Nat) (y : Nat → Value) (hs : From w A m y) (h1 : ∀ j, (y j).oneCell' = true)
    (h63 : n + m ≤ maxLen) (hbytes : (n + m) * bytes ≤ 140737488355328) (hbase : base ≤ w.heap.size) :
    ∃ v' w', (Builtin.append_ #[t, t] ty #[v, .slice A m c]).run P w = .ok v' w' ∧ Own w' base e v' (n + m) (fun j => if j < n then f j else y (j - n)) ∧ w.grownBy w' v.ownBlock ∧ (v'.ownBlock = v.ownBlock ∨ v'.ownBlock = some w.heap.size) ∧ (∀ g, v.ownBlock = some g → ∀ j, j < n → w'.cell? ⟨g, j, none⟩ = w.cell? ⟨g, j, none⟩) := by
  have hl : (List.range n).map f ++ (List.range m).map y = (List.range (n + m)).map (fun j => if j < n then f j else y (j - n)) := by
    apply List.ext_getElem?
    intro k
    by_cases h1 : k < n
    · rw [List.getElem?_append_left (by simpa using h1)]; simp [h1, show k < n + m by omega]
    · rw [List.getElem?_append_right (by simpa using Nat.le_of_not_lt h1)]
      by_cases h2 : k < n + m
      · simp [h1, h2, show k - n < m by omega]
      · simp [h2, show ¬ k - n < m by omega]
  rcases A with _ | ad
  · have hm : m = 0 := by
      rcases hs with h | ⟨ad, h, _⟩
      · exact h
      · cases h
    subst hm
    refine ⟨v, w, ?_, hown.congr fun j hj => (if_pos hj).symm, World.grownBy.refl w _, .inl rfl, fun _ _ _ _ => rfl⟩
    rcases hown.2 with ⟨rfl, rfl⟩ | ⟨g, cap, cur, rfl, _, _, hnc, _⟩
    · simp [Builtin.append_, run_underlying ht, sizeOf, typeInfo, hi, Builtin.lenOf, Builtin.firstCells]
    · simp [Builtin.append_, run_underlying ht, sizeOf, typeInfo, hi, Builtin.lenOf, Builtin.firstCells, hnc, storeCells]
  · have hc : ∀ j, j < m → w.cell? (ad.add j) = some (y j) := by
      rcases hs with h | ⟨ad', h, hc⟩
      · intro j hj; omega
      · cases h; exact hc
    obtain ⟨v', w', hr, h2, h3, _, h5⟩ := run_append_own_at (P := P) w base t ty e i z 1 bytes ht hi hz hsize hby hzs (by omega) v n _ hown ad m c ((List.range m).map y) (by simp) (fun j u hu => by
      have hj : j < m := by have := (List.getElem?_eq_some_iff.1 hu).1; simpa using this
      rw [hc j hj, ← hu]; simp [hj]) (fun u hu => by simp at hu; obtain ⟨j, _, rfl⟩ := hu; exact h1 j) h63 hbytes hbase
    rw [hl] at h2
    refine ⟨v', w', hr, h2, h3, h5, fun g hg j hj => ?_⟩
    have cellAt : ∀ (b k : Nat), (⟨b, 0, none⟩ : Addr).add k = ⟨b, k, none⟩ := fun b k => by rw [Addr.add_mid, Nat.zero_add]
    rcases hown.2 with ⟨rfl, _⟩ | ⟨g', cap, cur, rfl, hbg, hgc, hnc, hcm, hcs, htake⟩
    · simp [Value.ownBlock] at hg
    · obtain rfl : g' = g := by simpa [Value.ownBlock] using hg
      have hold : w.cell? ⟨g', j, none⟩ = some (f j) := by
        rw [← cellAt g' j]
        exact hown.cells (g := g') rfl j _ (by simp [hj])
      by_cases hroom : n + m ≤ cap
      · have hr2 := run_append_room (P := P) w t ty e i ht hi g' n cap cur hgc ad m c ((List.range m).map y) (by simp [hsize]) (fun j u hu => by
          have hj : j < m := by have := (List.getElem?_eq_some_iff.1 hu).1; simpa using this
          rw [hc j hj, ← hu]; simp [hj]) (fun u hu => by simp at hu; obtain ⟨j, _, rfl⟩ := hu; exact h1 j) hroom (by rw [hsize]; simp; omega)
        rw [hr] at hr2
        injection hr2 with hv _
        rw [hold]
        rw [← cellAt g' j]
        rw [World.ownsRow.cells (g := g') h2 (by rw [hv]; rfl) j (f j) (by simp [hj, show j < n + m by omega])]
      · have hr2 := run_append_grow (P := P) w t ty e i z ht hi hz ⟨g', 0, none⟩ n cap ((List.range n).map f) (by simp [hsize]) (fun j u hu => hown.cells (g := g') rfl j u hu) ad m c ((List.range m).map y) (by simp [hsize]) (fun j u hu => by
          have hj : j < m := by have := (List.getElem?_eq_some_iff.1 hu).1; simpa using this
          rw [hc j hj, ← hu]; simp [hj]) (by omega) (by simp only [maxLen] at h63; omega) (growslice_fits (by omega) (by rw [hby]; exact hbytes))
        rw [hr] at hr2
        injection hr2 with _ hw
        rw [hw]
        exact World.cell?_of_block (w := w) (a := ⟨g', j, none⟩) (Below.heap_alloc w.drew _ g' (Array.getElem?_eq_some_iff.1 hgc).1)
/-- At a plain region's list. -/
theorem wpList_append_from {P : Program} (w : World) {ops : Array Oper} {rest : List Oper} {o : Oper} {a : Act} {Q : Exit → Act → World → Prop} (hgd : o.guard = none) (s x : Operand) (t : TypeId)
    (ho : o.op = .call { callee := .builtin .append, args := #[s, x], argTypes := #[t, t] })
    (base e : Nat) (i : TypeInfo) (z : Value) (bytes : Nat) (ht : P.underlying t = some (.slice e)) (hi : P.info? e = some i) (hz : i.zero = some z) (hsize : i.size = 1) (hby : i.bytes = bytes) (hzs : z.cells.size = 1)
    (v : Value) (n : Nat) (f : Nat → Value) (hs : a.eval s = v) (hown : Own w base e v n f) (A : Option Addr) (m c : Nat) (hx : a.eval x = .slice A m c) (y : Nat → Value) (hsr : From w A m y) (h1 : ∀ j, (y j).oneCell' = true)
    (h63 : n + m ≤ maxLen) (hbytes : (n + m) * bytes ≤ 140737488355328) (hbase : base ≤ w.heap.size)
    (h : ∀ v' w', Own w' base e v' (n + m) (fun j => if j < n then f j else y (j - n)) → w.grownBy w' v.ownBlock → (v'.ownBlock = v.ownBlock ∨ v'.ownBlock = some w.heap.size) → wpList P ops Q rest (a.put o.dst v') w') : wpList P ops Q (o :: rest) a w := by
  refine wpList_plain hgd fun K hK => ?_
  obtain ⟨v', w', hr, h2, h3, h5, _⟩ := own_append (P := P) w base t o.type e i z bytes ht hi hz hsize hby hzs v n f hown A m c y hsr h1 h63 hbytes hbase
  unfold Oper.wp execOp
  simp only [ho, resolve, invoke, builtin, Sem.run_bind, Sem.run_pure, Result.andThen_ok, List.map_toArray, List.map_cons, List.map_nil, hs, hx, hr]
  exact hK _ _ (h v' w' h2 h3 h5)
/-- At a step of a region that draws its order. -/
theorem step_append_from {P : Program} (w : World) {ops : Array Oper} {o : Oper} {a : Act} {K : Act → World → Prop} {Q : Exit → Act → World → Prop} {E : Prop} (hgd : o.guard = none) (s x : Operand) (t : TypeId)
    (ho : o.op = .call { callee := .builtin .append, args := #[s, x], argTypes := #[t, t] })
    (base e : Nat) (i : TypeInfo) (z : Value) (bytes : Nat) (ht : P.underlying t = some (.slice e)) (hi : P.info? e = some i) (hz : i.zero = some z) (hsize : i.size = 1) (hby : i.bytes = bytes) (hzs : z.cells.size = 1)
    (v : Value) (n : Nat) (f : Nat → Value) (hs : a.eval s = v) (hown : Own w base e v n f) (A : Option Addr) (m c : Nat) (hx : a.eval x = .slice A m c) (y : Nat → Value) (hsr : From w A m y) (h1 : ∀ j, (y j).oneCell' = true)
    (h63 : n + m ≤ maxLen) (hbytes : (n + m) * bytes ≤ 140737488355328) (hbase : base ≤ w.heap.size)
    (h : ∀ v' w', Own w' base e v' (n + m) (fun j => if j < n then f j else y (j - n)) → w.grownBy w' v.ownBlock → (v'.ownBlock = v.ownBlock ∨ v'.ownBlock = some w.heap.size) → (∀ g, v.ownBlock = some g → ∀ j, j < n → w'.cell? ⟨g, j, none⟩ = w.cell? ⟨g, j, none⟩) → K (a.put o.dst v') w') :
    if Region.wanted o (yielded ops a.tmps) = true then Oper.wp P o a w K Q else E := by
  have hw : Region.wanted o (yielded ops a.tmps) = true := by simp [Region.wanted, hgd]
  rw [if_pos hw]
  obtain ⟨v', w', hr, h2, h3, h5, h6⟩ := own_append (P := P) w base t o.type e i z bytes ht hi hz hsize hby hzs v n f hown A m c y hsr h1 h63 hbytes hbase
  unfold Oper.wp execOp
  simp only [ho, resolve, invoke, builtin, Sem.run_bind, Sem.run_pure, Result.andThen_ok, List.map_toArray, List.map_cons, List.map_nil, hs, hx, hr]
  exact h v' w' h2 h3 h5 h6
/-- One new block's cells, appended. -/
theorem from_new (w : World) (x : Value) (t : Nat) : From (w.alloc (.cells #[x] t)) (some ⟨w.heap.size, 0, none⟩) 1 (fun _ => x) :=
  .inr ⟨_, rfl, fun j hj => by
    obtain rfl : j = 0 := by omega
    rw [Addr.add_mid, World.cell?_alloc_mark]; rfl⟩
theorem grown_below {B : Nat} {a w w' : World} {row : Option Nat} (h : Below B a w) (hg : w.grownBy w' row) (hB : B ≤ w.heap.size) (hr : ∀ k, row = some k → B ≤ k) : Below B a w' := h.grown hg hB hr
end Go.Proofs.YthgenmoiendakaaDoor


/-
  Slices cut anywhere.
-/
namespace Go.Proofs.YthgenmoiendakaaDoor
open Go.RowKit

/-- Where s[m:] begins. -/
def cutA (A : Option Addr) (m c : Nat) : Option Addr := if c = m then A else A.map (·.add (m * 1))
theorem cut_from (A : Option Addr) (r c m : Nat) (hm : m ≤ r) (w : World) : (Instr.sliceAt 40 (.slice A r c) (some (.int .i64 (m : Int))) none none).run Tryd.prog w = .ok (.slice (cutA A m c) (r - m) (c - m)) w := by
  have e2 : ((sizeOf (Tryd.prog.elem 40)).run Tryd.prog w) = .ok 1 w := by kernel_rfl
  rw [run_sliceAt_slice w 40 _ _ _ _ (by kernel_rfl), run_slice_l w 40 A r c (by kernel_rfl) .i64 (m : Int) (by omega) (by omega), e2]
  simp [sliced, Result.andThen, cutA]
theorem cut_to (A : Option Addr) (r c m : Nat) (hm : m ≤ c) (w : World) : (Instr.sliceAt 40 (.slice A r c) none (some (.int .i64 (m : Int))) none).run Tryd.prog w = .ok (.slice (cutA A 0 c) m c) w := by
  have e2 : ((sizeOf (Tryd.prog.elem 40)).run Tryd.prog w) = .ok 1 w := by kernel_rfl
  rw [run_sliceAt_slice w 40 _ _ _ _ (by kernel_rfl), run_slice_h w 40 A r c (by kernel_rfl) .i64 (m : Int) (by omega) (by omega), e2]
  simp [sliced, Result.andThen, cutA]
end Go.Proofs.YthgenmoiendakaaDoor
