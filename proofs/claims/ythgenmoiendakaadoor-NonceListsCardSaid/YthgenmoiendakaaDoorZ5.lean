/-
  Merged: SMath SWords SSpec SConst SBits HBase HRot.
-/
import Derived.WalkKit
import Derived.WalkSpells
import Derived.WalkLawsBesides
import Derived.Deep.LoopGhost
import Derived.BigQuiet
import Derived.Deep.MidRow
import Derived.Deep.WholeRow
import Derived.ChangeKeysEq
import Derived.Deep.QuietTactic
import Derived.Test.YthgenmoiendakaaDoorRows
import Derived.Test.YthgenmoiendakaaDoorZ1

/-
  Words of 32 bits: turned right. No Go in sight.
-/
namespace Go.Proofs.YthgenmoiendakaaDoor

/-- x, a word of 32 bits, turned right by n. -/
def rot (x n : Nat) : Nat := x / 2 ^ n + 2 ^ (32 - n) * (x % 2 ^ n)
theorem rot_zero {x : Nat} : rot x 0 = x := by unfold rot; rw [Nat.pow_zero, Nat.div_one, Nat.mod_one, Nat.mul_zero, Nat.add_zero]
theorem rot_step {x n : Nat} (hn : n < 32) : rot x n / 2 + 2147483648 * (rot x n % 2) = rot x (n + 1) := by
  obtain ⟨m, hm⟩ : ∃ m, 32 - n = m + 1 := ⟨31 - n, by omega⟩
  have hm2 : 32 - (n + 1) = m := by omega
  have h31 : 2 ^ m * 2 ^ n = 2147483648 := by rw [← Nat.pow_add, show m + n = 31 by omega]
  unfold rot
  rw [hm, hm2, Nat.pow_succ 2 m, Nat.pow_succ 2 n, ← Nat.div_div_eq_div_mul, Nat.mod_mul, Nat.mul_add, ← Nat.mul_assoc (2 ^ m), h31, Nat.mul_comm (2 ^ m) 2, Nat.mul_assoc]
  generalize x / 2 ^ n = q
  generalize 2 ^ m * (x % 2 ^ n) = p
  omega
theorem rot_lt {x n : Nat} (hn : n ≤ 32) (hx : x < 2 ^ 32) : rot x n < 2 ^ 32 := by
  have hp : 0 < 2 ^ n := Nat.pow_pos (by omega)
  have e : 2 ^ 32 = 2 ^ (32 - n) * 2 ^ n := by rw [← Nat.pow_add]; congr 1; omega
  have hq : x / 2 ^ n < 2 ^ (32 - n) := by rw [Nat.div_lt_iff_lt_mul hp, ← e]; exact hx
  have hr := Nat.mod_lt x hp
  unfold rot
  rw [e]
  have : 2 ^ (32 - n) * (x % 2 ^ n + 1) ≤ 2 ^ (32 - n) * 2 ^ n := Nat.mul_le_mul_left _ hr
  rw [Nat.mul_add] at this
  omega
end Go.Proofs.YthgenmoiendakaaDoor


/-
  clapperref03.right, shift: a word turned, and shifted, right.
-/
namespace Go.Proofs.YthgenmoiendakaaDoor
open Go.RowKit

theorem veil32 {p : Prop} (h : p) : Hid p := h

set_option maxRecDepth 100000 in
set_option maxHeartbeats 1000000 in
theorem right_calls (x n : Nat) (hx : x < 2 ^ 32) (hn : n ≤ 32) (w : World) :
    Calls Tryd.prog 62 #[.int .u32 (x : Int), .int .i64 (n : Int)] w fun e w' => e = .returned (.int .u32 (rot x n : Nat)) ∧ w' = w := by
  have HX := veil32 hx
  clear hx
  have hni : (n : Int) ≤ 32 := by omega
  go_enter Tryd.func62, Tryd.ntmps62
  go_wp2
  go_loopw [0, 5] (fun y i wr => ∃ k : Nat, k ≤ n ∧ i = .int .i64 (k : Int) ∧ y = .int .u32 (rot x k : Nat) ∧ wr = w)
    (fun _ i _ => n - (intOf i).toNat)
  case atStart => exact ⟨0, by omega, rfl, by rw [rot_zero], rfl⟩
  case round =>
    obtain ⟨k, hk, rfl, rfl, rfl⟩ := hrel
    by_cases hlt : k < n
    · have hlti : (k : Int) < (n : Int) := by omega
      have hs := rot_step (x := x) (n := k) (by omega)
      have hl := rot_lt (x := x) (n := k) (by omega) HX.out
      have hl2 := rot_lt (x := x) (n := k + 1) (by omega) HX.out
      obtain ⟨y, hy⟩ : ∃ y : Int, y = ((rot x k : Nat) : Int) := ⟨_, rfl⟩
      obtain ⟨z, hz⟩ : ∃ z : Int, z = ((rot x (k + 1) : Nat) : Int) := ⟨_, rfl⟩
      have e : y / 2 + 2147483648 * (y % 2) = z := by omega
      have y0 : 0 ≤ y := by omega
      have y1 : y ≤ 4294967295 := by omega
      have z1 : z ≤ 4294967295 := by omega
      rw [← hy]
      have HZ := veil32 hz
      clear hs hl hl2 hy hz
      have hd : y % 2 = 1 ∨ y % 2 = 0 := by omega
      rcases hd with h | h
      · rw [h] at e
        have e2 : y / 2 + 2147483648 = z := by omega
        clear e
        go_wp2
        go_roundw
        case rel => exact ⟨k + 1, by omega, by go_num, by rw [← HZ.out], trivial⟩
        case measure => simp [intOf]; omega
      · rw [h] at e
        have e2 : y / 2 = z := by omega
        clear e
        go_wp2
        go_roundw
        case rel => exact ⟨k + 1, by omega, by go_num, by rw [← HZ.out, e2], trivial⟩
        case measure => simp [intOf]; omega
    · obtain rfl : k = n := by omega
      go_wp2
      go_ret
      exact ⟨rfl, rfl⟩

set_option maxRecDepth 100000 in
set_option maxHeartbeats 1000000 in
theorem shift_calls (x n : Nat) (hx : x < 2 ^ 32) (hn : n ≤ 32) (w : World) :
    Calls Tryd.prog 63 #[.int .u32 (x : Int), .int .i64 (n : Int)] w fun e w' => e = .returned (.int .u32 (x / 2 ^ n : Nat)) ∧ w' = w := by
  have HX := veil32 hx
  clear hx
  have hni : (n : Int) ≤ 32 := by omega
  go_enter Tryd.func63, Tryd.ntmps63
  go_wp2
  go_loopw [0, 5] (fun y i wr => ∃ k : Nat, k ≤ n ∧ i = .int .i64 (k : Int) ∧ y = .int .u32 (x / 2 ^ k : Nat) ∧ wr = w)
    (fun _ i _ => n - (intOf i).toNat)
  case atStart => exact ⟨0, by omega, rfl, by rw [Nat.pow_zero, Nat.div_one], rfl⟩
  case round =>
    obtain ⟨k, hk, rfl, rfl, rfl⟩ := hrel
    by_cases hlt : k < n
    · have hlti : (k : Int) < (n : Int) := by omega
      have hs : x / 2 ^ (k + 1) = x / 2 ^ k / 2 := by rw [Nat.pow_succ, Nat.div_div_eq_div_mul]
      have hl : x / 2 ^ k < 2 ^ 32 := Nat.lt_of_le_of_lt (Nat.div_le_self _ _) HX.out
      obtain ⟨y, hy⟩ : ∃ y : Int, y = ((x / 2 ^ k : Nat) : Int) := ⟨_, rfl⟩
      obtain ⟨z, hz⟩ : ∃ z : Int, z = ((x / 2 ^ (k + 1) : Nat) : Int) := ⟨_, rfl⟩
      have HZ := veil32 hz
      rw [hs] at hz
      rw [← hy]
      generalize x / 2 ^ k = q at *
      have e2 : y / 2 = z := by omega
      have y0 : 0 ≤ y := by omega
      have y1 : y ≤ 4294967295 := by omega
      clear hs hl hy hz
      go_wp2
      go_roundw
      case rel => exact ⟨k + 1, by omega, by go_num, by rw [← HZ.out, e2], trivial⟩
      case measure => simp [intOf]; omega
    · obtain rfl : k = n := by omega
      go_wp2
      go_ret
      exact ⟨rfl, rfl⟩
end Go.Proofs.YthgenmoiendakaaDoor


/-
  The sum of a text, as the document says it, in numbers. No Go in sight.
-/
namespace Go.Proofs.YthgenmoiendakaaDoor

/-- K0 to K63. -/
def kList : List Nat := [1116352408, 1899447441, 3049323471, 3921009573, 961987163, 1508970993, 2453635748, 2870763221, 3624381080, 310598401, 607225278, 1426881987, 1925078388, 2162078206, 2614888103, 3248222580, 3835390401, 4022224774, 264347078, 604807628, 770255983, 1249150122, 1555081692, 1996064986, 2554220882, 2821834349, 2952996808, 3210313671, 3336571891, 3584528711, 113926993, 338241895, 666307205, 773529912, 1294757372, 1396182291, 1695183700, 1986661051, 2177026350, 2456956037, 2730485921, 2820302411, 3259730800, 3345764771, 3516065817, 3600352804, 4094571909, 275423344, 430227734, 506948616, 659060556, 883997877, 958139571, 1322822218, 1537002063, 1747873779, 1955562222, 2024104815, 2227730452, 2361852424, 2428436474, 2756734187, 3204031479, 3329325298]
def kc (t : Nat) : Nat := kList.getD t 0
/-- The state at first. -/
def hList : List Nat := [1779033703, 3144134277, 1013904242, 2773480762, 1359893119, 2600822924, 528734635, 1541459225]
def ad (x y : Nat) : Nat := (x + y) % 4294967296
def sg0 (x : Nat) : Nat := rot x 7 ^^^ rot x 18 ^^^ (x / 2 ^ 3)
def sg1 (x : Nat) : Nat := rot x 17 ^^^ rot x 19 ^^^ (x / 2 ^ 10)
def bs0 (x : Nat) : Nat := rot x 2 ^^^ rot x 13 ^^^ rot x 22
def bs1 (x : Nat) : Nat := rot x 6 ^^^ rot x 11 ^^^ rot x 25
def chN (x y z : Nat) : Nat := (x &&& y) ^^^ ((4294967295 - x) &&& z)
def majN (x y z : Nat) : Nat := (x &&& y) ^^^ (x &&& z) ^^^ (y &&& z)
theorem getD_lo (l r : List Nat) {t : Nat} (h : t < l.length) : (l ++ r).getD t 0 = l.getD t 0 := by simp [List.getD, List.getElem?_append_left h]
theorem getD_at (l : List Nat) (x : Nat) {t : Nat} (h : l.length = t) : (l ++ [x]).getD t 0 = x := by subst h; simp [List.getD]
/-- The words of a block: m its first 16. -/
def sched (m : Nat → Nat) : Nat → List Nat
  | 0 => []
  | t + 1 => let l := sched m t
    l ++ [if t < 16 then m t else ad (ad (ad (sg1 (l.getD (t - 2) 0)) (l.getD (t - 7) 0)) (sg0 (l.getD (t - 15) 0))) (l.getD (t - 16) 0)]
theorem sched_len (m : Nat → Nat) : ∀ t, (sched m t).length = t
  | 0 => rfl
  | t + 1 => by simp [sched, sched_len m t]
/-- Word t of them. -/
def wt (m : Nat → Nat) (t : Nat) : Nat := (sched m (t + 1)).getD t 0
theorem sched_getD (m : Nat → Nat) (t : Nat) : ∀ n, t < n → (sched m n).getD t 0 = wt m t
  | 0, h => by omega
  | n + 1, h => by
    by_cases e : t = n
    · subst e; rfl
    · have ih := sched_getD m t n (by omega)
      rw [← ih]
      show (sched m n ++ _).getD t 0 = _
      rw [getD_lo _ _ (by rw [sched_len]; omega)]
theorem wt_lo (m : Nat → Nat) {t : Nat} (h : t < 16) : wt m t = m t := by
  unfold wt
  show (sched m t ++ _).getD t 0 = _
  rw [getD_at _ _ (sched_len m t), if_pos h]
theorem wt_hi (m : Nat → Nat) {t : Nat} (h : ¬ t < 16) : wt m t = ad (ad (ad (sg1 (wt m (t - 2))) (wt m (t - 7))) (sg0 (wt m (t - 15)))) (wt m (t - 16)) := by
  conv => lhs; unfold wt
  show (sched m t ++ _).getD t 0 = _
  rw [getD_at _ _ (sched_len m t), if_neg h, sched_getD m _ t (by omega), sched_getD m _ t (by omega), sched_getD m _ t (by omega), sched_getD m _ t (by omega)]

/-- a to h. -/
structure St where
  a : Nat
  b : Nat
  c : Nat
  d : Nat
  e : Nat
  f : Nat
  g : Nat
  h : Nat
def t1N (s : St) (k w : Nat) : Nat := ad (ad (ad (ad s.h (bs1 s.e)) (chN s.e s.f s.g)) k) w
def t2N (s : St) : Nat := ad (bs0 s.a) (majN s.a s.b s.c)
def stepN (s : St) (k w : Nat) : St := ⟨ad (t1N s k w) (t2N s), s.a, s.b, s.c, ad s.d (t1N s k w), s.e, s.f, s.g⟩
def roundsN (m : Nat → Nat) (s : St) : Nat → St
  | 0 => s
  | t + 1 => stepN (roundsN m s t) (kc t) (wt m t)
def addSt (x y : St) : St := ⟨ad x.a y.a, ad x.b y.b, ad x.c y.c, ad x.d y.d, ad x.e y.e, ad x.f y.f, ad x.g y.g, ad x.h y.h⟩
def blockN (m : Nat → Nat) (s : St) : St := addSt s (roundsN m s 64)
/-- Word t of the block that begins at byte 'at' of a text. -/
def word (text : Nat → Nat) (i : Nat) : Nat := text i * 16777216 + text (i + 1) * 65536 + text (i + 2) * 256 + text (i + 3)
def blocksN (text : Nat → Nat) : Nat → St
  | 0 => ⟨1779033703, 3144134277, 1013904242, 2773480762, 1359893119, 2600822924, 528734635, 1541459225⟩
  | n + 1 => blockN (fun t => word text (64 * n + 4 * t)) (blocksN text n)
/-- How many bytes 0 stand behind the byte 128, and how many blocks there are. -/
def nBlocks (len : Nat) : Nat := (len + 9 + 63) / 64
/-- The text, padded. -/
def padded (b : Nat → Nat) (len : Nat) : Nat → Nat := fun i =>
  if i < len then b i else if i = len then 128 else if i < 64 * nBlocks len - 8 then 0 else 8 * len / 256 ^ (64 * nBlocks len - 1 - i) % 256
/-- The sum: its word i. -/
def shaSt (b : Nat → Nat) (len : Nat) : St := blocksN (padded b len) (nBlocks len)
end Go.Proofs.YthgenmoiendakaaDoor


/-
  clapperref03.constants: K0 to K63, in a new slice.
-/
namespace Go.Proofs.YthgenmoiendakaaDoor
open Go.RowKit

/-- A new slice of words. -/
def kCells : Array Value := (kList.map fun (k : Nat) => Value.int .u32 (k : Int)).toArray
set_option maxRecDepth 100000 in
set_option maxHeartbeats 1000000 in
theorem constants_calls (w : World) :
    Calls Tryd.prog 61 #[] w fun e w' => e = .returned (.slice (some ⟨w.heap.size, 0, none⟩) 64 64) ∧ w' = w.alloc (.cells kCells 68) := by
  go_enter Tryd.func61, Tryd.ntmps61
  go_wp2
  go_ret
  exact ⟨rfl, congrArg (fun c => w.alloc (.cells c 68)) (by unfold kCells kList; rfl)⟩
theorem kRow {w : World} {g : Nat} (hg : g = w.heap.size) : (w.alloc (.cells kCells 68)).rowIs g 68 64 (fun j => .int .u32 (kc j : Nat)) := by
  refine row_new hg (by unfold kCells kList; rfl) fun i hi => ?_
  unfold kCells kc
  have hl : kList.length = 64 := by decide
  simp [List.getD, hl, hi]
end Go.Proofs.YthgenmoiendakaaDoor


/-
  Bits of words of 32: what '&', '|', '^', turning by shifts, Ch and Maj come to, in numbers.
-/
namespace Go.Proofs.YthgenmoiendakaaDoor

theorem wrap32 (n : Int) : IntKind.u32.wrap n = n % 4294967296 := by simp [IntKind.wrap, IntKind.signed, IntKind.bits]
section
variable (a b : Nat) (ha : a < 4294967296) (hb : b < 4294967296)
include ha hb
theorem ofInt32 : (BitVec.ofInt 32 (a : Int)).toNat = a ∧ (BitVec.ofInt 32 (b : Int)).toNat = b := by
  constructor <;> (rw [BitVec.ofInt_natCast, BitVec.toNat_ofNat]; exact Nat.mod_eq_of_lt (by omega))
theorem and32 : bits .and .u32 (a : Int) (b : Int) = ((a &&& b : Nat) : Int) := by
  have hx : a &&& b < 2 ^ 32 := Nat.and_lt_two_pow _ (by omega)
  show IntKind.u32.wrap ((BitVec.ofInt 32 (a : Int) &&& BitVec.ofInt 32 (b : Int)).toNat : Int) = _
  rw [BitVec.toNat_and, (ofInt32 a b ha hb).1, (ofInt32 a b ha hb).2, wrap32]
  omega
theorem or32 : bits .or .u32 (a : Int) (b : Int) = ((a ||| b : Nat) : Int) := by
  have hx : a ||| b < 2 ^ 32 := Nat.or_lt_two_pow (by omega) (by omega)
  show IntKind.u32.wrap ((BitVec.ofInt 32 (a : Int) ||| BitVec.ofInt 32 (b : Int)).toNat : Int) = _
  rw [BitVec.toNat_or, (ofInt32 a b ha hb).1, (ofInt32 a b ha hb).2, wrap32]
  omega
theorem xor32 : bits .xor .u32 (a : Int) (b : Int) = ((a ^^^ b : Nat) : Int) := by
  have hx : a ^^^ b < 2 ^ 32 := Nat.xor_lt_two_pow (by omega) (by omega)
  show IntKind.u32.wrap ((BitVec.ofInt 32 (a : Int) ^^^ BitVec.ofInt 32 (b : Int)).toNat : Int) = _
  rw [BitVec.toNat_xor, (ofInt32 a b ha hb).1, (ofInt32 a b ha hb).2, wrap32]
  omega
end
/-- 'not' of a word. -/
theorem not_bit {x : Nat} (hx : x < 2 ^ 32) (i : Nat) : (4294967295 - x).testBit i = (decide (i < 32) && !x.testBit i) := by
  have h := Nat.testBit_two_pow_sub_succ hx i
  rwa [show 2 ^ 32 - (x + 1) = 4294967295 - x by omega] at h
theorem ch_or {x y z : Nat} (hx : x < 2 ^ 32) : chN x y z = (x &&& y) ||| ((4294967295 - x) &&& z) := by
  unfold chN
  apply Nat.eq_of_testBit_eq
  intro i
  simp only [Nat.testBit_xor, Nat.testBit_or, Nat.testBit_and, not_bit hx]
  cases x.testBit i <;> simp
/-- .. and as it is often typed: z changed where x's bit is 1 and y's isn't z's. -/
theorem ch_xor {x y z : Nat} (hx : x < 2 ^ 32) (hz : z < 2 ^ 32) : chN x y z = z ^^^ (x &&& (y ^^^ z)) := by
  unfold chN
  apply Nat.eq_of_testBit_eq
  intro i
  simp only [Nat.testBit_xor, Nat.testBit_and, not_bit hx]
  by_cases h : i < 32
  · simp only [h, decide_true, Bool.true_and]
    cases x.testBit i <;> cases y.testBit i <;> cases z.testBit i <;> rfl
  · have h32 : 2 ^ 32 ≤ 2 ^ i := Nat.pow_le_pow_right (by omega) (by omega)
    rw [Nat.testBit_lt_two_pow (Nat.lt_of_lt_of_le hx h32), Nat.testBit_lt_two_pow (Nat.lt_of_lt_of_le hz h32)]
    simp [h]
theorem maj_or (x y z : Nat) : majN x y z = (x &&& y) ||| (x &&& z) ||| (y &&& z) := by
  unfold majN
  apply Nat.eq_of_testBit_eq
  intro i
  simp only [Nat.testBit_xor, Nat.testBit_or, Nat.testBit_and]
  cases x.testBit i <;> cases y.testBit i <;> cases z.testBit i <;> rfl
/-- Turned by two shifts. -/
theorem rot_or {x n : Nat} (hn : n ≤ 32) (hx : x < 2 ^ 32) : rot x n = (x / 2 ^ n) ||| (x * 2 ^ (32 - n) % 2 ^ 32) := by
  have hp : 0 < 2 ^ n := Nat.pow_pos (by omega)
  have e : 2 ^ 32 = 2 ^ (32 - n) * 2 ^ n := by rw [← Nat.pow_add]; congr 1; omega
  have hq : x / 2 ^ n < 2 ^ (32 - n) := by rw [Nat.div_lt_iff_lt_mul hp, ← e]; exact hx
  have h1 : x * 2 ^ (32 - n) % 2 ^ 32 = 2 ^ (32 - n) * (x % 2 ^ n) := by rw [e, Nat.mul_comm x, Nat.mul_mod_mul_left]
  rw [h1, Nat.or_comm, ← Nat.two_pow_add_eq_or_of_lt hq]
  unfold rot
  omega
/-! ### all is below 2^32 -/
theorem ad_lt (x y : Nat) : ad x y < 2 ^ 32 := Nat.mod_lt _ (by decide)
theorem shr_lt {x : Nat} (n : Nat) (hx : x < 2 ^ 32) : x / 2 ^ n < 2 ^ 32 := Nat.lt_of_le_of_lt (Nat.div_le_self _ _) hx
theorem sg0_lt {x : Nat} (hx : x < 2 ^ 32) : sg0 x < 2 ^ 32 := Nat.xor_lt_two_pow (Nat.xor_lt_two_pow (rot_lt (by omega) hx) (rot_lt (by omega) hx)) (shr_lt 3 hx)
theorem sg1_lt {x : Nat} (hx : x < 2 ^ 32) : sg1 x < 2 ^ 32 := Nat.xor_lt_two_pow (Nat.xor_lt_two_pow (rot_lt (by omega) hx) (rot_lt (by omega) hx)) (shr_lt 10 hx)
theorem bs0_lt {x : Nat} (hx : x < 2 ^ 32) : bs0 x < 2 ^ 32 := Nat.xor_lt_two_pow (Nat.xor_lt_two_pow (rot_lt (by omega) hx) (rot_lt (by omega) hx)) (rot_lt (by omega) hx)
theorem bs1_lt {x : Nat} (hx : x < 2 ^ 32) : bs1 x < 2 ^ 32 := Nat.xor_lt_two_pow (Nat.xor_lt_two_pow (rot_lt (by omega) hx) (rot_lt (by omega) hx)) (rot_lt (by omega) hx)
theorem chN_lt {x y z : Nat} (hx : x < 2 ^ 32) : chN x y z < 2 ^ 32 := Nat.xor_lt_two_pow (Nat.lt_of_le_of_lt Nat.and_le_left hx) (Nat.lt_of_le_of_lt Nat.and_le_left (by omega))
theorem majN_lt {x y z : Nat} (hx : x < 2 ^ 32) (hy : y < 2 ^ 32) : majN x y z < 2 ^ 32 :=
  Nat.xor_lt_two_pow (Nat.xor_lt_two_pow (Nat.lt_of_le_of_lt Nat.and_le_left hx) (Nat.lt_of_le_of_lt Nat.and_le_left hx)) (Nat.lt_of_le_of_lt Nat.and_le_left hy)
theorem kc_lt (t : Nat) : kc t < 2 ^ 32 := by
  by_cases h : t < 64
  · have : ∀ t : Fin 64, kc t.1 < 2 ^ 32 := by decide
    exact this ⟨t, h⟩
  · have hl : kList.length ≤ t := by have : kList.length = 64 := by decide
                                     omega
    unfold kc
    simp [List.getD, List.getElem?_eq_none hl]
theorem wt_lt {m : Nat → Nat} (hm : ∀ t, t < 16 → m t < 2 ^ 32) (t : Nat) : wt m t < 2 ^ 32 := by
  by_cases h : t < 16
  · rw [wt_lo m h]; exact hm t h
  · rw [wt_hi m h]; exact ad_lt _ _
/-- Every word of the state is one of 32 bits. -/
structure St.Ok (s : St) : Prop where
  a : s.a < 2 ^ 32
  b : s.b < 2 ^ 32
  c : s.c < 2 ^ 32
  d : s.d < 2 ^ 32
  e : s.e < 2 ^ 32
  f : s.f < 2 ^ 32
  g : s.g < 2 ^ 32
  h : s.h < 2 ^ 32
theorem stepN_ok {s : St} (h : s.Ok) (k w : Nat) : (stepN s k w).Ok := ⟨ad_lt _ _, h.a, h.b, h.c, ad_lt _ _, h.e, h.f, h.g⟩
theorem roundsN_ok {m : Nat → Nat} {s : St} (h : s.Ok) : ∀ t, (roundsN m s t).Ok
  | 0 => h
  | t + 1 => stepN_ok (roundsN_ok h t) _ _
theorem blockN_ok (m : Nat → Nat) (s : St) : (blockN m s).Ok := ⟨ad_lt _ _, ad_lt _ _, ad_lt _ _, ad_lt _ _, ad_lt _ _, ad_lt _ _, ad_lt _ _, ad_lt _ _⟩
theorem blocksN_ok (text : Nat → Nat) : ∀ n, (blocksN text n).Ok
  | 0 => by constructor <;> (show _ < _; simp [blocksN])
  | n + 1 => blockN_ok _ _
/-- Only the text's own bytes count. -/
theorem blocksN_congr {f g : Nat → Nat} : ∀ n, (∀ i, i < 64 * n → f i = g i) → blocksN f n = blocksN g n
  | 0, _ => rfl
  | n + 1, h => by
    have ih := blocksN_congr n fun i hi => h i (by omega)
    have hw : ∀ t, t < 16 → word f (64 * n + 4 * t) = word g (64 * n + 4 * t) := by
      intro t ht
      unfold word
      rw [h _ (by omega), h _ (by omega), h _ (by omega), h _ (by omega)]
    have hs : ∀ k, sched (fun t => word f (64 * n + 4 * t)) k = sched (fun t => word g (64 * n + 4 * t)) k := by
      intro k
      induction k with
      | zero => simp only [sched]
      | succ k ihk =>
        simp only [sched]
        rw [ihk]
        by_cases hk : k < 16
        · simp only [if_pos hk]; rw [hw k hk]
        · simp only [if_neg hk]
    have hr : ∀ s k, roundsN (fun t => word f (64 * n + 4 * t)) s k = roundsN (fun t => word g (64 * n + 4 * t)) s k := by
      intro s k
      induction k with
      | zero => simp only [roundsN]
      | succ k ihk =>
        simp only [roundsN]
        rw [ihk]; unfold wt; rw [hs]
    simp only [blocksN]
    rw [ih]; unfold blockN; rw [hr]
end Go.Proofs.YthgenmoiendakaaDoor


/-
  A hash's block (8 words, 64 bytes, the length); arrays by a function of the index; the table of round words.
-/
namespace Go.Proofs.YthgenmoiendakaaDoor
open Go.RowKit

/-- Word j of the state. -/
def St.at (s : St) (j : Nat) : Nat := match j with | 0 => s.a | 1 => s.b | 2 => s.c | 3 => s.d | 4 => s.e | 5 => s.f | 6 => s.g | _ => s.h
theorem St.at_lt {s : St} (h : s.Ok) (j : Nat) : s.at j < 2 ^ 32 := by
  unfold St.at
  split
  · exact h.a
  · exact h.b
  · exact h.c
  · exact h.d
  · exact h.e
  · exact h.f
  · exact h.g
  · exact h.h

/-- The cells of a hash's block. -/
def hcells (s : St) (blk : Nat → Nat) (len : Nat) : Nat → Value := fun j => if j < 8 then .int .u32 (s.at j : Nat) else if j < 72 then .int .u8 (blk (j - 8) : Nat) else .int .i64 (len : Int)
/-- Block g is a hash: its state, its block, its length. -/
def HRow (w : World) (g : Nat) (s : St) (blk : Nat → Nat) (len : Nat) : Prop := w.rowIs g 72 73 (hcells s blk len)
section
variable {w w' : World} {g B len : Nat} {s : St} {blk : Nat → Nat}
theorem HRow.lt (h : HRow w g s blk len) : g < w.heap.size := World.rowIs.lt h
theorem HRow.below (h : HRow w g s blk len) (hb : Below B w w') (hlt : g < B) : HRow w' g s blk len := row_below h hb hlt
theorem HRow.call (h : HRow w g s blk len) (hb : Below w.heap.size w w') : HRow w' g s blk len := row_below h hb h.lt
theorem HRow.alloc (h : HRow w g s blk len) (o : Obj) : HRow (w.alloc o) g s blk len := World.rowIs.alloc h o
theorem HRow.drew (h : HRow w g s blk len) : HRow w.drew g s blk len := h
theorem HRow.drewN (h : HRow w g s blk len) (k : Nat) : HRow (w.drewN k) g s blk len := h
theorem HRow.of_block (h : HRow w g s blk len) (e : w'.heap[g]? = w.heap[g]?) : HRow w' g s blk len := World.rowIs.of_block h e
theorem HRow.state (h : HRow w g s blk len) {j : Nat} (hj : j < 8) : w.cell? ⟨g, j, none⟩ = some (.int .u32 (s.at j : Nat)) := by
  rw [World.rowIs.cell h (show j < 73 by omega), hcells, if_pos hj]
theorem HRow.byte (h : HRow w g s blk len) {j : Nat} (hj : j < 64) : w.cell? ⟨g, 8 + j, none⟩ = some (.int .u8 (blk j : Nat)) := by
  rw [World.rowIs.cell h (show 8 + j < 73 by omega), hcells, if_neg (by omega), if_pos (by omega), show 8 + j - 8 = j by omega]
theorem HRow.length (h : HRow w g s blk len) : w.cell? ⟨g, 72, none⟩ = some (.int .i64 (len : Int)) := by
  rw [World.rowIs.cell h (show 72 < 73 by omega), hcells, if_neg (by omega), if_neg (by omega)]
theorem HRow.block (h : HRow w g s blk len) : w.rangeAt g 8 ((List.range 64).map fun j => Value.int .u8 (blk j : Nat)) := by
  intro j v hv
  have hj : j < 64 := by simpa using (List.getElem?_eq_some_iff.1 hv).1
  rw [h.byte hj, ← hv]
  simp [hj]
theorem HRow.words (h : HRow w g s blk len) : w.rangeAt g 0 ((List.range 8).map fun j => Value.int .u32 (s.at j : Nat)) := by
  intro j v hv
  have hj : j < 8 := by simpa using (List.getElem?_eq_some_iff.1 hv).1
  rw [Nat.zero_add, h.state hj, ← hv]
  simp [hj]
end

/-- The table of round words, where the program's initialiser laid it. -/
structure KT (w : World) : Prop where
  lt : 0 < w.heap.size
  cell : ∀ j, j < 64 → w.cell? ⟨0, j, none⟩ = some (.int .u32 (kc j : Nat))
section
variable {w w' : World} {B : Nat}
theorem KT.of_block (h : KT w) (e : w'.heap[0]? = w.heap[0]?) (hs : w.heap.size ≤ w'.heap.size) : KT w' :=
  ⟨Nat.lt_of_lt_of_le h.lt hs, fun j hj => (World.cell?_of_block (w := w) (a := ⟨0, j, none⟩) e).trans (h.cell j hj)⟩
theorem KT.below (h : KT w) (hb : Below B w w') (hB : 0 < B) : KT w' := h.of_block (hb.block 0 hB) hb.size
theorem KT.call (h : KT w) (hb : Below w.heap.size w w') : KT w' := h.below hb h.lt
theorem KT.alloc (h : KT w) (o : Obj) : KT (w.alloc o) := h.of_block (Below.heap_alloc _ _ _ h.lt) (by simp)
theorem KT.drew (h : KT w) : KT w.drew := ⟨h.lt, h.cell⟩
theorem KT.drewN (h : KT w) (k : Nat) : KT (w.drewN k) := ⟨h.lt, h.cell⟩
theorem KT.far {b i : Nat} (h : KT w) (hne : 0 ≠ b) (v : Value) : KT (w.setCell ⟨b, i, none⟩ v) := h.of_block (Below.heap_setCell _ _ _ _ hne) (by simp [World.setCell])
theorem KT.grown {r : Nat} (h : KT w) (hg : w.grownBy w' (some r)) (hne : 0 ≠ r) : KT w' := h.of_block (hg.block 0 h.lt (by simpa using hne)) hg.size
end
end Go.Proofs.YthgenmoiendakaaDoor


/-
  sha's small functions: words turned, the four sums of turned words, Ch and Maj.
-/
namespace Go.Proofs.YthgenmoiendakaaDoor
open Go.RowKit

theorem neg_and : ∀ n : Fin 32, n.1 ≠ 0 → bits .and .u64 (IntKind.u64.wrap (-(n.1 : Int))) 31 = 32 - (n.1 : Int) := by decide
theorem rot_bits {x n : Nat} (hx : x < 2 ^ 32) (hn : n < 32) : bits .or .u32 ((x : Int) * 2 ^ (32 - n) % 4294967296) ((x : Int) / 2 ^ (32 - (32 - n))) = ((rot x n : Nat) : Int) := by
  have e : 32 - (32 - n) = n := by omega
  have e1 : (x : Int) * 2 ^ (32 - n) % 4294967296 = ((x * 2 ^ (32 - n) % 2 ^ 32 : Nat) : Int) := by
    rw [Int.natCast_emod, Int.natCast_mul, Int.natCast_pow]; rfl
  have e2 : (x : Int) / 2 ^ n = ((x / 2 ^ n : Nat) : Int) := by
    rw [Int.natCast_ediv, Int.natCast_pow]; rfl
  rw [e, e1, e2, or32 _ _ (Nat.mod_lt _ (by decide)) (shr_lt n hx), rot_or (by omega) hx, Nat.or_comm]
theorem ret_u32 {a : Int} {b : Nat} (h : a = (b : Int)) : Ending.returned (.int .u32 a) = .returned (.int .u32 (b : Nat)) := by rw [h]

set_option maxRecDepth 100000 in
set_option maxHeartbeats 1000000 in
theorem rotl_calls (x n : Nat) (hx : x < 2 ^ 32) (h0 : n ≠ 0) (hn : n < 32) (w : World) :
    Calls Tryd.prog 72 #[.int .u32 (x : Int), .int .i64 (-(n : Int))] w fun e w' => e = .returned (.int .u32 (rot x n : Nat)) ∧ w' = w := by
  have k1 := neg_and ⟨n, hn⟩ h0
  simp only at k1
  go_enter Tryd.func72, Tryd.ntmps72
  go_wp2
  go_ret
  exact ⟨ret_u32 (rot_bits hx hn), rfl⟩
set_option maxRecDepth 100000 in
set_option maxHeartbeats 1000000 in
theorem turned_calls (x n : Nat) (hx : x < 2 ^ 32) (h0 : n ≠ 0) (hn : n < 32) (w : World) :
    Calls Tryd.prog 66 #[.int .u32 (x : Int), .int .i64 (n : Int)] w fun e w' => e = .returned (.int .u32 (rot x n : Nat)) ∧ w' = w := by
  go_enter Tryd.func66, Tryd.ntmps66
  go_wp2_with (go_at_call 72; refine (rotl_calls x n hx h0 hn _).mono ?_; rintro e w' ⟨rfl, rfl⟩)
  go_ret
  exact ⟨rfl, rfl⟩

set_option maxRecDepth 100000 in
set_option maxHeartbeats 1000000 in
theorem bigOne_calls (x : Nat) (hx : x < 2 ^ 32) (w : World) :
    Calls Tryd.prog 48 #[.int .u32 (x : Int)] w fun e w' => e = .returned (.int .u32 (bs1 x : Nat)) ∧ w' = w := by
  have k1 := xor32 (rot x 6) (rot x 11) (rot_lt (by omega) hx) (rot_lt (by omega) hx)
  have k2 := xor32 (rot x 6 ^^^ rot x 11) (rot x 25) (Nat.xor_lt_two_pow (n := 32) (rot_lt (by omega) hx) (rot_lt (by omega) hx)) (rot_lt (by omega) hx)
  have H1 : Hid (∀ W, Calls Tryd.prog 66 #[.int .u32 (x : Int), .int .i64 6] W fun e w' => e = .returned (.int .u32 (rot x 6 : Nat)) ∧ w' = W) := veil32 (fun W => turned_calls x 6 hx (by decide) (by decide) W)
  have H2 : Hid (∀ W, Calls Tryd.prog 66 #[.int .u32 (x : Int), .int .i64 11] W fun e w' => e = .returned (.int .u32 (rot x 11 : Nat)) ∧ w' = W) := veil32 (fun W => turned_calls x 11 hx (by decide) (by decide) W)
  have H3 : Hid (∀ W, Calls Tryd.prog 66 #[.int .u32 (x : Int), .int .i64 25] W fun e w' => e = .returned (.int .u32 (rot x 25 : Nat)) ∧ w' = W) := veil32 (fun W => turned_calls x 25 hx (by decide) (by decide) W)
  go_enter Tryd.func48, Tryd.ntmps48
  go_wp2_with (go_at_call 66; (first | ((with_reducible refine (H1.out _).mono ?_); rintro e w' ⟨rfl, rfl⟩) | ((with_reducible refine (H2.out _).mono ?_); rintro e w' ⟨rfl, rfl⟩) | ((with_reducible refine (H3.out _).mono ?_); rintro e w' ⟨rfl, rfl⟩)))
  go_ret
  exact ⟨rfl, rfl⟩

set_option maxRecDepth 100000 in
set_option maxHeartbeats 1000000 in
theorem bigZero_calls (x : Nat) (hx : x < 2 ^ 32) (w : World) :
    Calls Tryd.prog 50 #[.int .u32 (x : Int)] w fun e w' => e = .returned (.int .u32 (bs0 x : Nat)) ∧ w' = w := by
  have k1 := xor32 (rot x 2) (rot x 13) (rot_lt (by omega) hx) (rot_lt (by omega) hx)
  have k2 := xor32 (rot x 2 ^^^ rot x 13) (rot x 22) (Nat.xor_lt_two_pow (n := 32) (rot_lt (by omega) hx) (rot_lt (by omega) hx)) (rot_lt (by omega) hx)
  have H1 : Hid (∀ W, Calls Tryd.prog 66 #[.int .u32 (x : Int), .int .i64 2] W fun e w' => e = .returned (.int .u32 (rot x 2 : Nat)) ∧ w' = W) := veil32 (fun W => turned_calls x 2 hx (by decide) (by decide) W)
  have H2 : Hid (∀ W, Calls Tryd.prog 66 #[.int .u32 (x : Int), .int .i64 13] W fun e w' => e = .returned (.int .u32 (rot x 13 : Nat)) ∧ w' = W) := veil32 (fun W => turned_calls x 13 hx (by decide) (by decide) W)
  have H3 : Hid (∀ W, Calls Tryd.prog 66 #[.int .u32 (x : Int), .int .i64 22] W fun e w' => e = .returned (.int .u32 (rot x 22 : Nat)) ∧ w' = W) := veil32 (fun W => turned_calls x 22 hx (by decide) (by decide) W)
  go_enter Tryd.func50, Tryd.ntmps50
  go_wp2_with (go_at_call 66; (first | ((with_reducible refine (H1.out _).mono ?_); rintro e w' ⟨rfl, rfl⟩) | ((with_reducible refine (H2.out _).mono ?_); rintro e w' ⟨rfl, rfl⟩) | ((with_reducible refine (H3.out _).mono ?_); rintro e w' ⟨rfl, rfl⟩)))
  go_ret
  exact ⟨rfl, rfl⟩

set_option maxRecDepth 100000 in
set_option maxHeartbeats 1000000 in
theorem smallOne_calls (x : Nat) (hx : x < 2 ^ 32) (w : World) :
    Calls Tryd.prog 64 #[.int .u32 (x : Int)] w fun e w' => e = .returned (.int .u32 (sg1 x : Nat)) ∧ w' = w := by
  obtain ⟨q, hq⟩ : ∃ q, q = x / 2 ^ 10 := ⟨_, rfl⟩
  have hql : q < 2 ^ 32 := by rw [hq]; exact shr_lt 10 hx
  have k3 : (x : Int) / 1024 = (q : Int) := by rw [hq, Int.natCast_ediv]; rfl
  have HQ := veil32 hq
  clear hq
  have k1 := xor32 (rot x 17) (rot x 19) (rot_lt (by omega) hx) (rot_lt (by omega) hx)
  have k2 := xor32 (rot x 17 ^^^ rot x 19) (q) (Nat.xor_lt_two_pow (n := 32) (rot_lt (by omega) hx) (rot_lt (by omega) hx)) (hql)
  have H1 : Hid (∀ W, Calls Tryd.prog 66 #[.int .u32 (x : Int), .int .i64 17] W fun e w' => e = .returned (.int .u32 (rot x 17 : Nat)) ∧ w' = W) := veil32 (fun W => turned_calls x 17 hx (by decide) (by decide) W)
  have H2 : Hid (∀ W, Calls Tryd.prog 66 #[.int .u32 (x : Int), .int .i64 19] W fun e w' => e = .returned (.int .u32 (rot x 19 : Nat)) ∧ w' = W) := veil32 (fun W => turned_calls x 19 hx (by decide) (by decide) W)
  go_enter Tryd.func64, Tryd.ntmps64
  go_wp2_with (go_at_call 66; (first | ((with_reducible refine (H1.out _).mono ?_); rintro e w' ⟨rfl, rfl⟩) | ((with_reducible refine (H2.out _).mono ?_); rintro e w' ⟨rfl, rfl⟩)))
  go_ret
  exact ⟨by unfold sg1; rw [← HQ.out]; rfl, rfl⟩

set_option maxRecDepth 100000 in
set_option maxHeartbeats 1000000 in
theorem smallZero_calls (x : Nat) (hx : x < 2 ^ 32) (w : World) :
    Calls Tryd.prog 65 #[.int .u32 (x : Int)] w fun e w' => e = .returned (.int .u32 (sg0 x : Nat)) ∧ w' = w := by
  obtain ⟨q, hq⟩ : ∃ q, q = x / 2 ^ 3 := ⟨_, rfl⟩
  have hql : q < 2 ^ 32 := by rw [hq]; exact shr_lt 3 hx
  have k3 : (x : Int) / 8 = (q : Int) := by rw [hq, Int.natCast_ediv]; rfl
  have HQ := veil32 hq
  clear hq
  have k1 := xor32 (rot x 7) (rot x 18) (rot_lt (by omega) hx) (rot_lt (by omega) hx)
  have k2 := xor32 (rot x 7 ^^^ rot x 18) (q) (Nat.xor_lt_two_pow (n := 32) (rot_lt (by omega) hx) (rot_lt (by omega) hx)) (hql)
  have H1 : Hid (∀ W, Calls Tryd.prog 66 #[.int .u32 (x : Int), .int .i64 7] W fun e w' => e = .returned (.int .u32 (rot x 7 : Nat)) ∧ w' = W) := veil32 (fun W => turned_calls x 7 hx (by decide) (by decide) W)
  have H2 : Hid (∀ W, Calls Tryd.prog 66 #[.int .u32 (x : Int), .int .i64 18] W fun e w' => e = .returned (.int .u32 (rot x 18 : Nat)) ∧ w' = W) := veil32 (fun W => turned_calls x 18 hx (by decide) (by decide) W)
  go_enter Tryd.func65, Tryd.ntmps65
  go_wp2_with (go_at_call 66; (first | ((with_reducible refine (H1.out _).mono ?_); rintro e w' ⟨rfl, rfl⟩) | ((with_reducible refine (H2.out _).mono ?_); rintro e w' ⟨rfl, rfl⟩)))
  go_ret
  exact ⟨by unfold sg0; rw [← HQ.out]; rfl, rfl⟩

theorem xor_all {x : Nat} (hx : x < 2 ^ 32) : bits .xor .u32 IntKind.u32.max (x : Int) = ((4294967295 - x : Nat) : Int) := by
  have h := xor32 4294967295 x (by decide) hx
  have e : 4294967295 ^^^ x = 4294967295 - x := by
    apply Nat.eq_of_testBit_eq
    intro i
    rw [Nat.testBit_xor, not_bit hx, show (4294967295 : Nat) = 2 ^ 32 - 1 from rfl, Nat.testBit_two_pow_sub_one]
    by_cases h : i < 32
    · simp [h]
    · have h32 : 2 ^ 32 ≤ 2 ^ i := Nat.pow_le_pow_right (by omega) (by omega)
      rw [Nat.testBit_lt_two_pow (Nat.lt_of_lt_of_le hx h32)]
      simp [h]
  rw [e] at h
  exact h
set_option maxRecDepth 100000 in
set_option maxHeartbeats 1000000 in
theorem choice_calls (x y z : Nat) (hx : x < 2 ^ 32) (hy : y < 2 ^ 32) (hz : z < 2 ^ 32) (w : World) :
    Calls Tryd.prog 49 #[.int .u32 (x : Int), .int .u32 (y : Int), .int .u32 (z : Int)] w fun e w' => e = .returned (.int .u32 (chN x y z : Nat)) ∧ w' = w := by
  have k1 := and32 x y hx hy
  have k2 := xor_all hx
  have k3 := and32 (4294967295 - x) z (by omega) hz
  have k4 := xor32 (x &&& y) ((4294967295 - x) &&& z) (Nat.lt_of_le_of_lt Nat.and_le_left hx) (Nat.lt_of_le_of_lt Nat.and_le_left (by omega))
  go_enter Tryd.func49, Tryd.ntmps49
  go_wp2
  go_ret
  exact ⟨rfl, rfl⟩
set_option maxRecDepth 100000 in
set_option maxHeartbeats 1000000 in
theorem majority_calls (x y z : Nat) (hx : x < 2 ^ 32) (hy : y < 2 ^ 32) (hz : z < 2 ^ 32) (w : World) :
    Calls Tryd.prog 51 #[.int .u32 (x : Int), .int .u32 (y : Int), .int .u32 (z : Int)] w fun e w' => e = .returned (.int .u32 (majN x y z : Nat)) ∧ w' = w := by
  have k1 := and32 x y hx hy
  have k2 := and32 x z hx hz
  have k3 := and32 y z hy hz
  have l1 : x &&& y < 2 ^ 32 := Nat.lt_of_le_of_lt Nat.and_le_left hx
  have l2 : x &&& z < 2 ^ 32 := Nat.lt_of_le_of_lt Nat.and_le_left hx
  have l3 : y &&& z < 2 ^ 32 := Nat.lt_of_le_of_lt Nat.and_le_left hy
  have k4 := xor32 (x &&& y) (x &&& z) l1 l2
  have k5 := xor32 ((x &&& y) ^^^ (x &&& z)) (y &&& z) (Nat.xor_lt_two_pow (n := 32) l1 l2) l3
  clear l1 l2 l3 hx hy hz
  go_enter Tryd.func51, Tryd.ntmps51
  go_wp2
  go_ret
  exact ⟨rfl, rfl⟩
end Go.Proofs.YthgenmoiendakaaDoor
