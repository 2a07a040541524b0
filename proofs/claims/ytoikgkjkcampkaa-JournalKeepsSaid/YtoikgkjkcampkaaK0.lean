/-
  Layer 9's mathematics: tickets, their bodies, signed ones, and what bytes open as. No program.
-/
import Derived.Test.YtoikgkjkcampkaaT0
namespace Go.Proofs.Ytoikgkjkcampkaa

/-! ### numbers as bytes, the highest first -/
def beB (k n : Nat) : List Nat := (List.range k).map fun i => n / 256 ^ (k - 1 - i) % 256
theorem beB_length (k n : Nat) : (beB k n).length = k := by simp [beB]
theorem beB_byt (k n : Nat) : Byt (beB k n) := fun x hx => by
  simp only [beB, List.mem_map] at hx
  obtain ⟨i, _, rfl⟩ := hx
  exact Nat.mod_lt _ (by decide)
theorem beB_get (k n : Nat) {i : Nat} (hi : i < k) : (beB k n).getD i 0 = n / 256 ^ (k - 1 - i) % 256 := by
  rw [List.getD_eq_getElem?_getD]
  simp [beB, hi]
theorem valB_beB_take (k n : Nat) : ∀ i, i ≤ k → valB ((beB k n).take i) = n % 256 ^ k / 256 ^ (k - i)
  | 0, _ => by
    show 0 = _
    rw [Nat.div_eq_of_lt]
    exact Nat.mod_lt _ (Nat.pow_pos (by decide))
  | i + 1, hi => by
    have h1 := valB_beB_take k n i (by omega)
    have hl : i < (beB k n).length := by rw [beB_length]; omega
    rw [valB_take hl, h1, beB_get k n (by omega)]
    obtain ⟨d, hd⟩ : ∃ d, k = i + 1 + d := ⟨k - (i + 1), by omega⟩
    have e1 : k - i = d + 1 := by omega
    have e2 : k - (i + 1) = d := by omega
    have e3 : k - 1 - i = d := by omega
    rw [e1, e2, e3, Nat.pow_succ, ← Nat.div_div_eq_div_mul]
    have e4 : n % 256 ^ k / 256 ^ d % 256 = n / 256 ^ d % 256 := by
      have e5 : 256 ^ k = 256 ^ d * 256 ^ (i + 1) := by rw [← Nat.pow_add]; congr 1; omega
      rw [e5, Nat.mod_mul_right_div_self, Nat.mod_mod_of_dvd]
      exact ⟨256 ^ i, by rw [Nat.pow_succ, Nat.mul_comm]⟩
    rw [← e4]
    omega
theorem valB_beB {k n : Nat} (h : n < 256 ^ k) : valB (beB k n) = n := by
  have := valB_beB_take k n k (Nat.le_refl _)
  rw [List.take_of_length_le (by rw [beB_length]; exact Nat.le_refl _), Nat.sub_self, Nat.pow_zero, Nat.div_one, Nat.mod_eq_of_lt h] at this
  exact this
theorem valB_lt_pow {bs : List Nat} (h : Byt bs) : ∀ i, i ≤ bs.length → valB (bs.take i) < 256 ^ i
  | 0, _ => by simp [valB]
  | i + 1, hi => by
    have h1 := valB_lt_pow h i (by omega)
    have h2 := h.getD i
    rw [valB_take (by omega), Nat.pow_succ]
    omega
theorem valB_lt_len {bs : List Nat} (h : Byt bs) : valB bs < 256 ^ bs.length := by
  have := valB_lt_pow h bs.length (Nat.le_refl _)
  rwa [List.take_length] at this
theorem beB_valB {bs : List Nat} {k : Nat} (h : Byt bs) (hk : bs.length = k) : beB k (valB bs) = bs := by
  have key : ∀ d i, i + d = k → valB (bs.take i) = valB bs / 256 ^ d := by
    intro d
    induction d with
    | zero =>
      intro i hi
      rw [List.take_of_length_le (by omega), Nat.pow_zero, Nat.div_one]
    | succ d ih =>
      intro i hi
      have h2 := ih (i + 1) (by omega)
      rw [valB_take (by omega)] at h2
      have h3 := h.getD i
      rw [Nat.pow_succ, ← Nat.div_div_eq_div_mul, ← h2]
      omega
  apply List.ext_getElem?
  intro i
  by_cases hi : i < k
  · have h1 := key (k - 1 - i) (i + 1) (by omega)
    rw [valB_take (by omega)] at h1
    have h3 := h.getD i
    have e : bs.getD i 0 = bs[i]'(by omega) := by rw [List.getD_eq_getElem?_getD, List.getElem?_eq_getElem (by omega : i < bs.length)]; rfl
    rw [List.getElem?_eq_getElem (by omega : i < bs.length), List.getElem?_eq_getElem (by rw [beB_length]; exact hi)]
    congr 1
    have e2 := beB_get k (valB bs) hi
    rw [List.getD_eq_getElem?_getD, List.getElem?_eq_getElem (by rw [beB_length]; exact hi), Option.getD_some] at e2
    rw [e2, ← e, ← h1]
    omega
  · rw [List.getElem?_eq_none (by rw [beB_length]; omega), List.getElem?_eq_none (by omega)]

/-! ### signatures as bytes -/
def sigB (r s : Nat) : List Nat := beB 32 r ++ beB 32 s
theorem sigB_length (r s : Nat) : (sigB r s).length = 64 := by simp [sigB, beB_length]
theorem sigB_byt (r s : Nat) : Byt (sigB r s) := (beB_byt _ _).append (beB_byt _ _)
def sigR (bs : List Nat) : Nat := valB (bs.take 32)
def sigS (bs : List Nat) : Nat := valB (bs.drop 32)
theorem sig_back {r s : Nat} (hr : r < 256 ^ 32) (hs : s < 256 ^ 32) : sigR (sigB r s) = r ∧ sigS (sigB r s) = s := by
  unfold sigR sigS sigB
  have e := beB_length 32 r
  constructor
  · rw [List.take_left' e]; exact valB_beB hr
  · rw [List.drop_left' e]; exact valB_beB hs
theorem sig_fore {bs : List Nat} (h : Byt bs) (hl : bs.length = 64) : sigB (sigR bs) (sigS bs) = bs := by
  unfold sigR sigS sigB
  rw [beB_valB (h.take 32) (by rw [List.length_take]; omega), beB_valB (h.drop 32) (by rw [List.length_drop]; omega), List.take_append_drop]

/-! ### fields of numbers -/
def numFs : Int → List Int → List Fd
  | _, [] => []
  | t, n :: r => (t, numB n) :: numFs (t + 1) r
theorem numFs_length : ∀ (t : Int) (l : List Int), (numFs t l).length = l.length
  | _, [] => rfl
  | t, n :: r => by
    show (numFs (t + 1) r).length + 1 = r.length + 1
    rw [numFs_length (t + 1) r]
theorem numFs_get : ∀ (t : Int) (l : List Int) (i : Nat), i < l.length → tgF (numFs t l) i = t + i ∧ bsF (numFs t l) i = numB (l.getD i 0)
  | _, [], _, h => by simp at h
  | t, n :: r, 0, _ => ⟨by show t = t + ((0 : Nat) : Int); omega, rfl⟩
  | t, n :: r, i + 1, h => by
    obtain ⟨h1, h2⟩ := numFs_get (t + 1) r i (by simpa using h)
    refine ⟨?_, h2⟩
    show tgF (numFs (t + 1) r) i = _
    rw [h1]
    omega
theorem numFs_snoc : ∀ (t : Int) (l : List Int) (n : Int), numFs t (l ++ [n]) = numFs t l ++ [(t + (l.length : Int), numB n)]
  | t, [], n => by
    show [(t, numB n)] = [(t + ((0 : Nat) : Int), numB n)]
    rw [show t + ((0 : Nat) : Int) = t by omega]
  | t, m :: r, n => by
    show (t, numB m) :: numFs (t + 1) (r ++ [n]) = (t, numB m) :: (numFs (t + 1) r ++ _)
    rw [numFs_snoc (t + 1) r n]
    congr 3
    simp only [List.length_cons]
    congr 1
    omega
theorem numFs_may {l : List Int} (h : l.length ≤ 64) : mayFs (numFs 1 l) = true := by
  refine decide_eq_true ⟨by rw [numFs_length]; exact h, fun i hi => ?_⟩
  rw [numFs_length] at hi
  obtain ⟨h1, h2⟩ := numFs_get 1 l i hi
  unfold okF
  rw [h1, h2, numB_length]
  refine ⟨by omega, by omega, by omega, fun h0 => ?_⟩
  obtain ⟨h3, _⟩ := numFs_get 1 l (i - 1) (by omega)
  rw [h3]
  omega
theorem numFs_byt : ∀ (t : Int) (l : List Int), BytF (numFs t l)
  | _, [] => fun f hf => by cases hf
  | t, n :: r => fun f hf => by
    rcases List.mem_cons.1 hf with rfl | hf
    · exact numB_byt n
    · exact numFs_byt (t + 1) r f hf
/-- The numbers of bytes: so many fields, from Tag 1 on, each a number from 0 on. -/
def numsOk (fs : List Fd) (many : Nat) : Prop := fs.length = many ∧ ∀ i, i < many → tgF fs i = (i : Int) + 1 ∧ 0 ≤ ofB (bsF fs i)
instance (fs : List Fd) (many : Nat) : Decidable (numsOk fs many) := by unfold numsOk; exact inferInstance
def numsOf (fs : List Fd) : List Int := fs.map fun f => ofB f.2
def numbersB (bs : List Nat) (many : Nat) : Option (List Int) := match getFs bs with
  | some fs => if numsOk fs many then some (numsOf fs) else none
  | none => none
def bodyB (l : List Int) : List Nat := encF (numFs 1 l)
theorem numsOf_get {fs : List Fd} {i : Nat} (hi : i < fs.length) : (numsOf fs).getD i 0 = ofB (bsF fs i) := by
  unfold numsOf bsF
  simp [List.getD_eq_getElem?_getD, hi]
theorem numsOf_length (fs : List Fd) : (numsOf fs).length = fs.length := by simp [numsOf]
theorem numbers_body {l : List Int} (hl : l.length ≤ 64) (h : ∀ n ∈ l, 0 ≤ n ∧ n ≤ 9223372036854775807) : numbersB (bodyB l) l.length = some l := by
  unfold numbersB bodyB
  rw [get_enc (numFs_may hl)]
  have hg : ∀ i, i < l.length → ofB (bsF (numFs 1 l) i) = l.getD i 0 := fun i hi => by
    have h2 := h (l[i]) (List.getElem_mem hi)
    have e : l.getD i 0 = l[i] := by simp [List.getD_eq_getElem?_getD, hi]
    rw [(numFs_get 1 l i hi).2, e, ofB_num (by omega) h2.2, if_pos h2.1]
  have hok : numsOk (numFs 1 l) l.length := by
    refine ⟨numFs_length _ _, fun i hi => ⟨by rw [(numFs_get 1 l i hi).1]; omega, ?_⟩⟩
    have h2 := h (l[i]) (List.getElem_mem hi)
    have e : l.getD i 0 = l[i] := by simp [List.getD_eq_getElem?_getD, hi]
    rw [hg i hi, e]
    exact h2.1
  simp only [if_pos hok]
  congr 1
  apply List.ext_getElem?
  intro i
  by_cases hi : i < l.length
  · have h1 := numsOf_get (fs := numFs 1 l) (i := i) (by rw [numFs_length]; exact hi)
    rw [hg i hi] at h1
    rw [List.getElem?_eq_getElem hi, List.getElem?_eq_getElem (by rw [numsOf_length, numFs_length]; exact hi)]
    simp only [List.getD_eq_getElem?_getD] at h1
    rw [List.getElem?_eq_getElem hi, List.getElem?_eq_getElem (by rw [numsOf_length, numFs_length]; exact hi)] at h1
    simpa using h1
  · rw [List.getElem?_eq_none (by rw [numsOf_length, numFs_length]; omega), List.getElem?_eq_none (by omega)]
theorem body_numbers {bs : List Nat} {many : Nat} {l : List Int} (hb : Byt bs) (h : numbersB bs many = some l) : l.length = many ∧ bodyB l = bs := by
  unfold numbersB at h
  cases hg : getFs bs with
  | none => rw [hg] at h; cases h
  | some fs =>
    rw [hg] at h
    simp only at h
    split at h
    · rename_i hok
      injection h with h
      subst h
      refine ⟨by rw [numsOf_length]; exact hok.1, ?_⟩
      unfold bodyB
      have hB := get_byt hb hg
      have e : numFs 1 (numsOf fs) = fs := by
        apply List.ext_getElem
        · rw [numFs_length, numsOf_length]
        intro i h1 h2
        have h3 : i < (numsOf fs).length := by rw [numsOf_length]; exact h2
        obtain ⟨x1, x2⟩ := numFs_get 1 (numsOf fs) i h3
        obtain ⟨y1, y2⟩ := hok.2 i (by have := hok.1; omega)
        rw [numsOf_get h2, numB_of (by
          unfold bsF
          rw [List.getD_eq_getElem?_getD, List.getElem?_eq_getElem h2]
          exact hB _ (List.getElem_mem h2)) y2] at x2
        unfold tgF at x1 y1
        unfold bsF at x2
        simp only [List.getD_eq_getElem?_getD, List.getElem?_eq_getElem h1, List.getElem?_eq_getElem h2, Option.getD_some] at x1 x2 y1
        exact Prod.ext (by rw [x1, y1]; omega) x2
      rw [e]
      exact enc_get hb hg
    · cases h
end Go.Proofs.Ytoikgkjkcampkaa
