/-
  Bits of words of 32: what '&', '|', '^', turning by shifts, Ch and Maj come to, in numbers.
-/
import Derived.Test.YtmgogcoafhompaaDoorSSpec
namespace Go.Proofs.YtmgogcoafhompaaDoor

theorem wrap32 (n : Int) : IntKind.u32.wrap n = n % 4294967296 := by simp [IntKind.wrap, IntKind.signed, IntKind.bits]
section
variable (a b : Nat) (ha : a < 4294967296) (hb : b < 4294967296)
include ha hb
theorem ofInt32 : (BitVec.ofInt 32 (a : Int)).toNat = a ∧ (BitVec.ofInt 32 (b : Int)).toNat = b := by
  constructor <;> (rw [BitVec.ofInt_natCast, BitVec.toNat_ofNat]; exact Nat.mod_eq_of_lt (by omega))
theorem and32 : bits .and .u32 (a : Int) (b : Int) = ((a &&& b : Nat) : Int) := by
  have hx : a &&& b < 2 ^ 32 := Nat.and_lt_two_pow _ (by omega)
  show IntKind.u32.wrap ((BitVec.ofInt 32 (a : Int) &&& BitVec.ofInt 32 (b : Int)).toNat : Int) = _
  rw [BitVec.toNat_and, (ofInt32 a b ha hb).1, (ofInt32 a b ha hb).2, wrap32]
  omega
theorem or32 : bits .or .u32 (a : Int) (b : Int) = ((a ||| b : Nat) : Int) := by
  have hx : a ||| b < 2 ^ 32 := Nat.or_lt_two_pow (by omega) (by omega)
  show IntKind.u32.wrap ((BitVec.ofInt 32 (a : Int) ||| BitVec.ofInt 32 (b : Int)).toNat : Int) = _
  rw [BitVec.toNat_or, (ofInt32 a b ha hb).1, (ofInt32 a b ha hb).2, wrap32]
  omega
theorem xor32 : bits .xor .u32 (a : Int) (b : Int) = ((a ^^^ b : Nat) : Int) := by
  have hx : a ^^^ b < 2 ^ 32 := Nat.xor_lt_two_pow (by omega) (by omega)
  show IntKind.u32.wrap ((BitVec.ofInt 32 (a : Int) ^^^ BitVec.ofInt 32 (b : Int)).toNat : Int) = _
  rw [BitVec.toNat_xor, (ofInt32 a b ha hb).1, (ofInt32 a b ha hb).2, wrap32]
  omega
end
/-- 'not' of a word. -/
theorem not_bit {x : Nat} (hx : x < 2 ^ 32) (i : Nat) : (4294967295 - x).testBit i = (decide (i < 32) && !x.testBit i) := by
  have h := Nat.testBit_two_pow_sub_succ hx i
  rwa [show 2 ^ 32 - (x + 1) = 4294967295 - x by omega] at h
theorem ch_or {x y z : Nat} (hx : x < 2 ^ 32) : chN x y z = (x &&& y) ||| ((4294967295 - x) &&& z) := by
  unfold chN
  apply Nat.eq_of_testBit_eq
  intro i
  simp only [Nat.testBit_xor, Nat.testBit_or, Nat.testBit_and, not_bit hx]
  cases x.testBit i <;> simp
/-- .. and as it is often typed: z changed where x's bit is 1 and y's isn't z's. -/
theorem ch_xor {x y z : Nat} (hx : x < 2 ^ 32) (hz : z < 2 ^ 32) : chN x y z = z ^^^ (x &&& (y ^^^ z)) := by
  unfold chN
  apply Nat.eq_of_testBit_eq
  intro i
  simp only [Nat.testBit_xor, Nat.testBit_and, not_bit hx]
  by_cases h : i < 32
  · simp only [h, decide_true, Bool.true_and]
    cases x.testBit i <;> cases y.testBit i <;> cases z.testBit i <;> rfl
  · have h32 : 2 ^ 32 ≤ 2 ^ i := Nat.pow_le_pow_right (by omega) (by omega)
    rw [Nat.testBit_lt_two_pow (Nat.lt_of_lt_of_le hx h32), Nat.testBit_lt_two_pow (Nat.lt_of_lt_of_le hz h32)]
    simp [h]
theorem maj_or (x y z : Nat) : majN x y z = (x &&& y) ||| (x &&& z) ||| (y &&& z) := by
  unfold majN
  apply Nat.eq_of_testBit_eq
  intro i
  simp only [Nat.testBit_xor, Nat.testBit_or, Nat.testBit_and]
  cases x.testBit i <;> cases y.testBit i <;> cases z.testBit i <;> rfl
/-- Turned by two shifts. -/
theorem rot_or {x n : Nat} (hn : n ≤ 32) (hx : x < 2 ^ 32) : rot x n = (x / 2 ^ n) ||| (x * 2 ^ (32 - n) % 2 ^ 32) := by
  have hp : 0 < 2 ^ n := Nat.pow_pos (by omega)
  have e : 2 ^ 32 = 2 ^ (32 - n) * 2 ^ n := by rw [← Nat.pow_add]; congr 1; omega
  have hq : x / 2 ^ n < 2 ^ (32 - n) := by rw [Nat.div_lt_iff_lt_mul hp, ← e]; exact hx
  have h1 : x * 2 ^ (32 - n) % 2 ^ 32 = 2 ^ (32 - n) * (x % 2 ^ n) := by rw [e, Nat.mul_comm x, Nat.mul_mod_mul_left]
  rw [h1, Nat.or_comm, ← Nat.two_pow_add_eq_or_of_lt hq]
  unfold rot
  omega
/-! ### all is below 2^32 -/
theorem ad_lt (x y : Nat) : ad x y < 2 ^ 32 := Nat.mod_lt _ (by decide)
theorem shr_lt {x : Nat} (n : Nat) (hx : x < 2 ^ 32) : x / 2 ^ n < 2 ^ 32 := Nat.lt_of_le_of_lt (Nat.div_le_self _ _) hx
theorem sg0_lt {x : Nat} (hx : x < 2 ^ 32) : sg0 x < 2 ^ 32 := Nat.xor_lt_two_pow (Nat.xor_lt_two_pow (rot_lt (by omega) hx) (rot_lt (by omega) hx)) (shr_lt 3 hx)
theorem sg1_lt {x : Nat} (hx : x < 2 ^ 32) : sg1 x < 2 ^ 32 := Nat.xor_lt_two_pow (Nat.xor_lt_two_pow (rot_lt (by omega) hx) (rot_lt (by omega) hx)) (shr_lt 10 hx)
theorem bs0_lt {x : Nat} (hx : x < 2 ^ 32) : bs0 x < 2 ^ 32 := Nat.xor_lt_two_pow (Nat.xor_lt_two_pow (rot_lt (by omega) hx) (rot_lt (by omega) hx)) (rot_lt (by omega) hx)
theorem bs1_lt {x : Nat} (hx : x < 2 ^ 32) : bs1 x < 2 ^ 32 := Nat.xor_lt_two_pow (Nat.xor_lt_two_pow (rot_lt (by omega) hx) (rot_lt (by omega) hx)) (rot_lt (by omega) hx)
theorem chN_lt {x y z : Nat} (hx : x < 2 ^ 32) : chN x y z < 2 ^ 32 := Nat.xor_lt_two_pow (Nat.lt_of_le_of_lt Nat.and_le_left hx) (Nat.lt_of_le_of_lt Nat.and_le_left (by omega))
theorem majN_lt {x y z : Nat} (hx : x < 2 ^ 32) (hy : y < 2 ^ 32) : majN x y z < 2 ^ 32 :=
  Nat.xor_lt_two_pow (Nat.xor_lt_two_pow (Nat.lt_of_le_of_lt Nat.and_le_left hx) (Nat.lt_of_le_of_lt Nat.and_le_left hx)) (Nat.lt_of_le_of_lt Nat.and_le_left hy)
theorem kc_lt (t : Nat) : kc t < 2 ^ 32 := by
  by_cases h : t < 64
  · have : ∀ t : Fin 64, kc t.1 < 2 ^ 32 := by decide
    exact this ⟨t, h⟩
  · have hl : kList.length ≤ t := by have : kList.length = 64 := by decide
                                     omega
    unfold kc
    simp [List.getD, List.getElem?_eq_none hl]
theorem wt_lt {m : Nat → Nat} (hm : ∀ t, t < 16 → m t < 2 ^ 32) (t : Nat) : wt m t < 2 ^ 32 := by
  by_cases h : t < 16
  · rw [wt_lo m h]; exact hm t h
  · rw [wt_hi m h]; exact ad_lt _ _
/-- Every word of the state is one of 32 bits. -/
structure St.Ok (s : St) : Prop where
  a : s.a < 2 ^ 32
  b : s.b < 2 ^ 32
  c : s.c < 2 ^ 32
  d : s.d < 2 ^ 32
  e : s.e < 2 ^ 32
  f : s.f < 2 ^ 32
  g : s.g < 2 ^ 32
  h : s.h < 2 ^ 32
theorem stepN_ok {s : St} (h : s.Ok) (k w : Nat) : (stepN s k w).Ok := ⟨ad_lt _ _, h.a, h.b, h.c, ad_lt _ _, h.e, h.f, h.g⟩
theorem roundsN_ok {m : Nat → Nat} {s : St} (h : s.Ok) : ∀ t, (roundsN m s t).Ok
  | 0 => h
  | t + 1 => stepN_ok (roundsN_ok h t) _ _
theorem blockN_ok (m : Nat → Nat) (s : St) : (blockN m s).Ok := ⟨ad_lt _ _, ad_lt _ _, ad_lt _ _, ad_lt _ _, ad_lt _ _, ad_lt _ _, ad_lt _ _, ad_lt _ _⟩
theorem blocksN_ok (text : Nat → Nat) : ∀ n, (blocksN text n).Ok
  | 0 => by constructor <;> (show _ < _; simp [blocksN])
  | n + 1 => blockN_ok _ _
/-- Only the text's own bytes count. -/
theorem blocksN_congr {f g : Nat → Nat} : ∀ n, (∀ i, i < 64 * n → f i = g i) → blocksN f n = blocksN g n
  | 0, _ => rfl
  | n + 1, h => by
    have ih := blocksN_congr n fun i hi => h i (by omega)
    have hw : ∀ t, t < 16 → word f (64 * n + 4 * t) = word g (64 * n + 4 * t) := by
      intro t ht
      unfold word
      rw [h _ (by omega), h _ (by omega), h _ (by omega), h _ (by omega)]
    have hs : ∀ k, sched (fun t => word f (64 * n + 4 * t)) k = sched (fun t => word g (64 * n + 4 * t)) k := by
      intro k
      induction k with
      | zero => simp only [sched]
      | succ k ihk =>
        simp only [sched]
        rw [ihk]
        by_cases hk : k < 16
        · simp only [if_pos hk]; rw [hw k hk]
        · simp only [if_neg hk]
    have hr : ∀ s k, roundsN (fun t => word f (64 * n + 4 * t)) s k = roundsN (fun t => word g (64 * n + 4 * t)) s k := by
      intro s k
      induction k with
      | zero => simp only [roundsN]
      | succ k ihk =>
        simp only [roundsN]
        rw [ihk]; unfold wt; rw [hs]
    simp only [blocksN]
    rw [ih]; unfold blockN; rw [hr]
end Go.Proofs.YtmgogcoafhompaaDoor
