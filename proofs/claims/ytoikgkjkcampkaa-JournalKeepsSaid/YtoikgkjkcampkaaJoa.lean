/-
  Layer 16's mathematics: a journal's two slots, its records; what is there behind a write that was cut off.
-/
import Derived.WalkKit
namespace Go.Proofs.Ytoikgkjkcampkaa

/-- A part of bytes. -/
def seg (B : List Nat) (a n : Nat) : List Nat := (B.drop a).take n
/-- Bytes put in place. -/
def putAt (B : List Nat) (a : Nat) (bs : List Nat) : List Nat := B.take a ++ (bs ++ B.drop (a + bs.length))
theorem seg_len {B : List Nat} {a n : Nat} (h : a + n ≤ B.length) : (seg B a n).length = n := by
  unfold seg
  simp only [List.length_take, List.length_drop]
  omega
theorem putAt_len {B bs : List Nat} {a : Nat} (h : a + bs.length ≤ B.length) : (putAt B a bs).length = B.length := by
  unfold putAt
  simp only [List.length_append, List.length_take, List.length_drop]
  omega
theorem putAt_get {B bs : List Nat} {a : Nat} (h : a + bs.length ≤ B.length) (i : Nat) : (putAt B a bs)[i]? = if a ≤ i ∧ i < a + bs.length then bs[i - a]? else B[i]? := by
  unfold putAt
  rw [List.getElem?_append]
  have hl : (B.take a).length = a := by simp only [List.length_take]; omega
  rw [hl]
  by_cases h1 : i < a
  · rw [if_pos h1, if_neg (by omega), List.getElem?_take_of_lt h1]
  · rw [if_neg h1, List.getElem?_append]
    by_cases h2 : i - a < bs.length
    · rw [if_pos h2, if_pos ⟨by omega, by omega⟩]
    · rw [if_neg h2, if_neg (by omega), List.getElem?_drop]
      congr 1
      omega
theorem seg_get {B : List Nat} {a n : Nat} (i : Nat) : (seg B a n)[i]? = if i < n then B[a + i]? else none := by
  unfold seg
  by_cases h : i < n
  · rw [if_pos h, List.getElem?_take_of_lt h, List.getElem?_drop]
  · rw [if_neg h, List.getElem?_take_eq_none (by omega)]
/-- Elsewhere they stay. -/
theorem seg_far {B bs : List Nat} {a b n : Nat} (h : a + bs.length ≤ B.length) (hf : b + n ≤ a ∨ a + bs.length ≤ b) : seg (putAt B a bs) b n = seg B b n := by
  apply List.ext_getElem?
  intro i
  rw [seg_get, seg_get]
  by_cases hi : i < n
  · rw [if_pos hi, if_pos hi, putAt_get h, if_neg (by omega)]
  · rw [if_neg hi, if_neg hi]
/-- Within they are what was put. -/
theorem seg_in {B bs : List Nat} {a b n : Nat} (h : a + bs.length ≤ B.length) (hb : a ≤ b) (hn : b + n ≤ a + bs.length) : seg (putAt B a bs) b n = seg bs (b - a) n := by
  apply List.ext_getElem?
  intro i
  rw [seg_get, seg_get]
  by_cases hi : i < n
  · rw [if_pos hi, if_pos hi, putAt_get h, if_pos (by omega)]
    congr 1
    omega
  · rw [if_neg hi, if_neg hi]

/-! ### numbers of eight bytes -/
def be8 (l : List Nat) : Nat := l.foldl (fun a x => 256 * a + x) 0
def to8 (n : Nat) : List Nat := [n / 72057594037927936 % 256, n / 281474976710656 % 256, n / 1099511627776 % 256, n / 4294967296 % 256, n / 16777216 % 256, n / 65536 % 256, n / 256 % 256, n % 256]
theorem to8_len (n : Nat) : (to8 n).length = 8 := rfl
theorem be8_to8 {n : Nat} (h : n < 18446744073709551616) : be8 (to8 n) = n := by
  simp only [be8, to8, List.foldl_cons, List.foldl_nil]
  omega
/-- The last byte of eight: the number modulo 256. -/
theorem be8_last {l : List Nat} (h : l.length = 8) (hb : ∀ (i x : Nat), l[i]? = some x → x < 256) : l[7]? = some (be8 l % 256) := by
  match l, h with
  | [a, b, c, d, e, f, g, z], _ =>
    have := hb 7 z rfl
    simp only [be8, List.foldl_cons, List.foldl_nil]
    show some z = _
    congr 1
    omega

/-! ### slots -/
def slotB (t e : Nat) : List Nat := to8 t ++ (to8 e ++ to8 t)
theorem slotB_3 (t e i : Nat) (h : i < 8) : (slotB t e)[16 + i]? = (to8 t)[i]? := by
  unfold slotB
  rw [List.getElem?_append_right (by rw [to8_len]; omega), List.getElem?_append_right (by rw [to8_len, to8_len]; omega), to8_len, to8_len]
  congr 1
  omega
theorem slotB_len (t e : Nat) : (slotB t e).length = 24 := rfl
/-- The turn and the end of slot k; turn 0: it doesn't count. -/
def slotT (B : List Nat) (k : Nat) : Nat × Nat :=
  if be8 (seg B (24 * k) 8) = be8 (seg B (24 * k + 16) 8) ∧ be8 (seg B (24 * k) 8) ≠ 0 ∧ be8 (seg B (24 * k) 8) < 4611686018427387904 ∧ be8 (seg B (24 * k + 8) 8) ≤ B.length - 48 then (be8 (seg B (24 * k) 8), be8 (seg B (24 * k + 8) 8)) else (0, 0)
/-- The journal's turn and end. -/
def endJ (B : List Nat) : Nat × Nat := if (slotT B 0).1 < (slotT B 1).1 then slotT B 1 else slotT B 0
theorem seg_seg {B : List Nat} {a n b m : Nat} (h : b + m ≤ n) : seg (seg B a n) b m = seg B (a + b) m := by
  apply List.ext_getElem?
  intro i
  rw [seg_get (B := seg B a n), seg_get (B := B) (a := a + b)]
  by_cases hi : i < m
  · rw [if_pos hi, if_pos hi, seg_get, if_pos (by omega)]
    congr 1
    omega
  · rw [if_neg hi, if_neg hi]
theorem slotT_of {B : List Nat} {k : Nat} {s : List Nat} (h : seg B (24 * k) 24 = s) : be8 (seg B (24 * k) 8) = be8 (seg s 0 8) ∧ be8 (seg B (24 * k + 8) 8) = be8 (seg s 8 8) ∧ be8 (seg B (24 * k + 16) 8) = be8 (seg s 16 8) := by
  subst h
  rw [seg_seg (by omega), seg_seg (by omega), seg_seg (by omega)]
  exact ⟨rfl, rfl, rfl⟩
theorem slotT_slot {B : List Nat} {k t e : Nat} (h : seg B (24 * k) 24 = slotB t e) (ht : t < 4611686018427387904) (he : e < 4611686018427387904) : slotT B k = if t ≠ 0 ∧ e ≤ B.length - 48 then (t, e) else (0, 0) := by
  obtain ⟨h1, h2, h3⟩ := slotT_of h
  have e1 : be8 (seg (slotB t e) 0 8) = t := be8_to8 (n := t) (by omega)
  have e2 : be8 (seg (slotB t e) 8 8) = e := be8_to8 (n := e) (by omega)
  have e3 : be8 (seg (slotB t e) 16 8) = t := be8_to8 (n := t) (by omega)
  rw [e1] at h1
  rw [e2] at h2
  rw [e3] at h3
  unfold slotT
  rw [h1, h2, h3]
  by_cases c : t ≠ 0 ∧ e ≤ B.length - 48
  · rw [if_pos c, if_pos ⟨rfl, c.1, ht, c.2⟩]
  · rw [if_neg c, if_neg fun k => c ⟨k.2.1, k.2.2.2⟩]

/-! ### records -/
def encR (r : List Nat) : List Nat := r.length / 256 :: r.length % 256 :: r
def encRs (l : List (List Nat)) : List Nat := l.flatMap encR
def okR16 (l : List (List Nat)) : Prop := ∀ r ∈ l, 1 ≤ r.length ∧ r.length ≤ 2000
/-- The records of bytes, from their beginning on. -/
def recsF : Nat → List Nat → List (List Nat)
  | f + 1, a :: b :: s => if 1 ≤ 256 * a + b ∧ 256 * a + b ≤ 2000 ∧ 256 * a + b ≤ s.length then s.take (256 * a + b) :: recsF f (s.drop (256 * a + b)) else []
  | _, _ => []
def recsJ (B : List Nat) : List (List Nat) := recsF (seg B 48 (endJ B).2).length (seg B 48 (endJ B).2)
theorem encR_len (r : List Nat) : (encR r).length = r.length + 2 := rfl
theorem recsF_enc : ∀ {l : List (List Nat)} {f : Nat}, okR16 l → (encRs l).length ≤ f → recsF f (encRs l) = l
  | [], f, _, _ => by cases f <;> rfl
  | r :: l, f, h, hf => by
    have hr := h r (List.mem_cons_self ..)
    have e : encRs (r :: l) = r.length / 256 :: r.length % 256 :: (r ++ encRs l) := rfl
    rw [e] at hf ⊢
    simp only [List.length_cons, List.length_append] at hf
    cases f with
    | zero => omega
    | succ f =>
      have hn : 256 * (r.length / 256) + r.length % 256 = r.length := Nat.div_add_mod ..
      unfold recsF
      rw [hn, if_pos ⟨hr.1, hr.2, by simp⟩, List.take_left, List.drop_left, recsF_enc (fun x hx => h x (List.mem_cons_of_mem _ hx)) (by omega)]
theorem encRs_add (l : List (List Nat)) (r : List Nat) : encRs (l ++ [r]) = encRs l ++ encR r := by
  unfold encRs
  rw [List.flatMap_append]
  simp

/-! ### what was written -/
/-- A record put at the end. -/
def putR (B : List Nat) (e : Nat) (r : List Nat) : List Nat := putAt B (48 + e) (encR r)
/-- The next slot put. -/
def putS (B : List Nat) (T e : Nat) (n : Nat) : List Nat := putAt B (24 * ((T + 1) % 2)) ((slotB (T + 1) e).take n)
/-- B holds the records l in turn T; what the other slot says is less. -/
structure GoodJ (B : List Nat) (T : Nat) (l : List (List Nat)) : Prop where
  size : 64 ≤ B.length ∧ B.length ≤ 4000
  ok : okR16 l
  fits : (encRs l).length ≤ B.length - 48
  area : seg B 48 (encRs l).length = encRs l
  turn : T ≤ 4000000
  slot : slotT B (T % 2) = if T = 0 then (0, 0) else (T, (encRs l).length)
  other : T ≤ (slotT B ((T + 1) % 2)).1 → T = 0 ∧ slotT B ((T + 1) % 2) = (0, 0)
theorem par2 (T : Nat) : T % 2 = 0 ∧ (T + 1) % 2 = 1 ∨ T % 2 = 1 ∧ (T + 1) % 2 = 0 := by omega
theorem good_end {B : List Nat} {T : Nat} {l : List (List Nat)} (h : GoodJ B T l) (h0 : T = 0 → l = []) : endJ B = (T, (encRs l).length) := by
  have hs := h.slot
  have ho := h.other
  unfold endJ
  by_cases hT : T = 0
  · subst hT
    rw [h0 rfl]
    have hs : slotT B 0 = (0, 0) := hs
    have ho : slotT B 1 = (0, 0) := (ho (Nat.zero_le _)).2
    rw [hs, ho]
    rfl
  · rw [if_neg hT] at hs
    rcases par2 T with ⟨h1, h2⟩ | ⟨h1, h2⟩
    · rw [h1] at hs
      rw [h2] at ho
      rw [hs]
      rw [if_neg fun c => hT (ho (Nat.le_of_lt c)).1]
    · rw [h1] at hs
      rw [h2] at ho
      rw [hs]
      by_cases c : (slotT B 0).1 < (T, (encRs l).length).1
      · rw [if_pos c]
      · exact absurd (ho (Nat.le_of_not_lt c)).1 hT
theorem good_recs {B : List Nat} {T : Nat} {l : List (List Nat)} (h : GoodJ B T l) (h0 : T = 0 → l = []) : recsJ B = l := by
  unfold recsJ
  rw [good_end h h0]
  simp only
  rw [h.area]
  exact recsF_enc h.ok (Nat.le_refl _)
/-- A record that may be appended. -/
def mayR (B : List Nat) (l : List (List Nat)) (r : List Nat) : Prop := 1 ≤ r.length ∧ r.length ≤ 2000 ∧ (encRs l).length + 2 + r.length ≤ B.length - 48
theorem slotT_congr {B B' : List Nat} {k : Nat} (h : seg B' (24 * k) 24 = seg B (24 * k) 24) (hl : B'.length = B.length) : slotT B' k = slotT B k := by
  obtain ⟨a1, a2, a3⟩ := slotT_of h
  obtain ⟨b1, b2, b3⟩ := slotT_of (B := B) (k := k) rfl
  unfold slotT
  rw [a1, a2, a3, b1, b2, b3, hl]
/-- Behind the record's own write, whole or not, all is as it was. -/
theorem good_area {B : List Nat} {T : Nat} {l : List (List Nat)} (h : GoodJ B T l) {bs : List Nat} (hb : (encRs l).length + bs.length ≤ B.length - 48) : GoodJ (putAt B (48 + (encRs l).length) bs) T l := by
  have hs := h.size
  have hf := h.fits
  have hput : 48 + (encRs l).length + bs.length ≤ B.length := by omega
  have hl := putAt_len hput
  refine ⟨by rw [hl]; exact hs, h.ok, by rw [hl]; exact hf, ?_, h.turn, ?_, ?_⟩
  · rw [seg_far hput (by omega)]
    exact h.area
  · rw [slotT_congr (seg_far hput (by omega)) hl]
    exact h.slot
  · rw [slotT_congr (seg_far hput (by omega)) hl]
    exact h.other
/-- Appended whole. -/
theorem good_app {B : List Nat} {T : Nat} {l : List (List Nat)} {r : List Nat} (h : GoodJ B T l) (hm : mayR B l r) (hT : T + 1 ≤ 4000000) : GoodJ (putS (putR B (encRs l).length r) T ((encRs l).length + 2 + r.length) 24) (T + 1) (l ++ [r]) := by
  have hs := h.size
  obtain ⟨m1, m2, m3⟩ := hm
  obtain ⟨B1, hB1⟩ : ∃ B1, B1 = putR B (encRs l).length r := ⟨_, rfl⟩
  have h1 : GoodJ B1 T l := by rw [hB1]; exact good_area h (by rw [encR_len]; omega)
  have hl1 : B1.length = B.length := by rw [hB1]; exact putAt_len (by rw [encR_len]; omega)
  have hend : (encRs (l ++ [r])).length = (encRs l).length + 2 + r.length := by rw [encRs_add, List.length_append, encR_len]; omega
  rw [← hB1]
  unfold putS
  rw [show (slotB (T + 1) ((encRs l).length + 2 + r.length)).take 24 = slotB (T + 1) ((encRs l).length + 2 + r.length) from List.take_of_length_le (by rw [slotB_len]; exact Nat.le_refl _)]
  have hk : (T + 1) % 2 < 2 := Nat.mod_lt _ (by omega)
  have hput : 24 * ((T + 1) % 2) + (slotB (T + 1) ((encRs l).length + 2 + r.length)).length ≤ B1.length := by rw [slotB_len]; omega
  have hl := putAt_len hput
  have hslot : seg (putAt B1 (24 * ((T + 1) % 2)) (slotB (T + 1) ((encRs l).length + 2 + r.length))) (24 * ((T + 1) % 2)) 24 = slotB (T + 1) ((encRs l).length + 2 + r.length) := by
    rw [seg_in hput (Nat.le_refl _) (by rw [slotB_len]; exact Nat.le_refl _), Nat.sub_self]
    rfl
  have hother : slotT (putAt B1 (24 * ((T + 1) % 2)) (slotB (T + 1) ((encRs l).length + 2 + r.length))) (T % 2) = slotT B1 (T % 2) := slotT_congr (seg_far hput (by rw [slotB_len]; omega)) hl
  have harea : seg B1 48 (encRs (l ++ [r])).length = encRs (l ++ [r]) := by
    rw [hend, hB1, encRs_add]
    unfold putR
    have hp : 48 + (encRs l).length + (encR r).length ≤ B.length := by rw [encR_len]; omega
    apply List.ext_getElem?
    intro i
    rw [seg_get, List.getElem?_append]
    by_cases hi : i < (encRs l).length
    · rw [if_pos hi, if_pos (by omega), putAt_get hp, if_neg (by omega)]
      have := congrArg (fun x => x[i]?) h.area
      simp only [seg_get, if_pos hi] at this
      exact this
    · rw [if_neg hi]
      by_cases hi2 : i < (encRs l).length + 2 + r.length
      · rw [if_pos hi2, putAt_get hp, if_pos (by rw [encR_len]; omega)]
        congr 1
        omega
      · rw [if_neg hi2, List.getElem?_eq_none (by rw [encR_len]; omega)]
  refine ⟨by rw [hl, hl1]; exact hs, fun x hx => ?_, by rw [hl, hl1, hend]; exact m3, ?_, hT, ?_, ?_⟩
  · rcases List.mem_append.1 hx with hx | hx
    · exact h.ok x hx
    · rw [List.mem_singleton.1 hx]
      exact ⟨m1, m2⟩
  · rw [seg_far hput (by rw [slotB_len]; omega)]
    exact harea
  · rw [slotT_slot hslot (by omega) (by omega), if_pos ⟨by omega, by rw [hl, hl1]; exact m3⟩, if_neg (by omega), hend]
  · rw [show (T + 1 + 1) % 2 = T % 2 by omega, hother, h1.slot]
    intro c
    split at c
    · exact absurd c (by simp)
    · exact absurd c (by simp)
/-- What the old slot holds where journals only grew. -/
structure CleanJ (B : List Nat) (T : Nat) (l : List (List Nat)) : Prop where
  good : GoodJ B T l
  old : ∃ t e, seg B (24 * ((T + 1) % 2)) 24 = slotB t e ∧ t = T - 1 ∧ e < 4611686018427387904
theorem low_ne (T : Nat) : (T + 1) % 256 ≠ (T - 1) % 256 := by omega
theorem to8_at (n i : Nat) (x : Nat) (h : (to8 n)[i]? = some x) : x < 256 := by
  match i, h with
  | 0, h => rw [← Option.some.inj h]; omega
  | 1, h => rw [← Option.some.inj h]; omega
  | 2, h => rw [← Option.some.inj h]; omega
  | 3, h => rw [← Option.some.inj h]; omega
  | 4, h => rw [← Option.some.inj h]; omega
  | 5, h => rw [← Option.some.inj h]; omega
  | 6, h => rw [← Option.some.inj h]; omega
  | 7, h => rw [← Option.some.inj h]; omega
  | i + 8, h => simp [to8] at h
/-- A slot cut off doesn't count, or counts as it did. -/
theorem cut_slot {B : List Nat} {T e' n : Nat} {k t e : Nat} (hk : 24 * k + 24 ≤ B.length) (h : seg B (24 * k) 24 = slotB t e) (ht : t = T - 1) (hT : T ≤ 4000000) (hn : n < 24) :
    (slotT (putAt B (24 * k) ((slotB (T + 1) e').take n)) k).1 ≤ t := by
  have hlen : ((slotB (T + 1) e').take n).length = n := by rw [List.length_take, slotB_len]; omega
  have hput : 24 * k + ((slotB (T + 1) e').take n).length ≤ B.length := by rw [hlen]; omega
  have hget := putAt_get hput
  rw [hlen] at hget
  have hold : ∀ i, i < 24 → B[24 * k + i]? = (slotB t e)[i]? := fun i hi => by
    have := congrArg (fun x => x[i]?) h
    simpa only [seg_get, if_pos hi] using this
  -- the last number's last byte is the old one's
  have hlast : (seg (putAt B (24 * k) ((slotB (T + 1) e').take n)) (24 * k + 16) 8)[7]? = some (t % 256) := by
    rw [seg_get, if_pos (by omega), hget, if_neg (by omega), show 24 * k + 16 + 7 = 24 * k + 23 by omega, hold 23 (by omega)]
    rfl
  have hbyte : ∀ i x, (seg (putAt B (24 * k) ((slotB (T + 1) e').take n)) (24 * k + 16) 8)[i]? = some x → x < 256 := fun i x hx => by
    rw [seg_get] at hx
    split at hx
    · rename_i hi
      rw [hget] at hx
      split at hx
      · rename_i c
        rw [List.getElem?_take_of_lt (by omega), show 24 * k + 16 + i - 24 * k = 16 + i by omega] at hx
        exact to8_at (T + 1) i x (by rw [← hx, slotB_3 _ _ _ hi])
      · rw [show 24 * k + 16 + i = 24 * k + (16 + i) by omega, hold (16 + i) (by omega)] at hx
        exact to8_at t i x (by rw [← hx, slotB_3 _ _ _ hi])
    · cases hx
  have hl3 : (seg (putAt B (24 * k) ((slotB (T + 1) e').take n)) (24 * k + 16) 8).length = 8 := seg_len (by rw [putAt_len hput]; omega)
  have hmod := be8_last hl3 hbyte
  rw [hlast] at hmod
  have hmod : t % 256 = be8 (seg (putAt B (24 * k) ((slotB (T + 1) e').take n)) (24 * k + 16) 8) % 256 := Option.some.inj hmod
  unfold slotT
  split
  · rename_i c
    show be8 (seg (putAt B (24 * k) ((slotB (T + 1) e').take n)) (24 * k) 8) ≤ t
    by_cases hn8 : 8 ≤ n
    · -- the first number is the new one: its last byte is another one
      have e1 : seg (putAt B (24 * k) ((slotB (T + 1) e').take n)) (24 * k) 8 = to8 (T + 1) := by
        apply List.ext_getElem?
        intro i
        rw [seg_get]
        by_cases hi : i < 8
        · rw [if_pos hi, hget, if_pos (by omega), List.getElem?_take_of_lt (by omega), show 24 * k + i - 24 * k = i by omega]
          unfold slotB
          rw [List.getElem?_append_left (by rw [to8_len]; exact hi)]
        · rw [if_neg hi, List.getElem?_eq_none (by rw [to8_len]; omega)]
      have h1 := c.1
      rw [e1, be8_to8 (by omega)] at h1
      rw [← h1, ht] at hmod
      exact absurd hmod.symm (low_ne T)
    · -- the third number is the old one
      have e3 : seg (putAt B (24 * k) ((slotB (T + 1) e').take n)) (24 * k + 16) 8 = to8 t := by
        apply List.ext_getElem?
        intro i
        rw [seg_get]
        by_cases hi : i < 8
        · rw [if_pos hi, hget, if_neg (by omega), show 24 * k + 16 + i = 24 * k + (16 + i) by omega, hold (16 + i) (by omega)]
          rw [slotB_3 _ _ _ hi]
        · rw [if_neg hi, List.getElem?_eq_none (by rw [to8_len]; omega)]
      rw [c.1, e3, be8_to8 (by omega)]
      exact Nat.le_refl _
  · exact Nat.zero_le _
/-- Cut off in the slot: all is as it was. -/
theorem good_cut {B : List Nat} {T : Nat} {l : List (List Nat)} {e' n : Nat} (h : CleanJ B T l) (hn : n < 24) : GoodJ (putS B T e' n) T l := by
  have hs := h.good.size
  have hk : (T + 1) % 2 < 2 := Nat.mod_lt _ (by omega)
  obtain ⟨t, e, ho, ht, _⟩ := h.old
  have hlen : ((slotB (T + 1) e').take n).length = n := by rw [List.length_take, slotB_len]; omega
  have hput : 24 * ((T + 1) % 2) + ((slotB (T + 1) e').take n).length ≤ B.length := by rw [hlen]; omega
  have hl := putAt_len hput
  have hcut := cut_slot (e' := e') (by omega) ho ht h.good.turn hn
  unfold putS
  refine ⟨by rw [hl]; exact hs, h.good.ok, by rw [hl]; exact h.good.fits, ?_, h.good.turn, ?_, ?_⟩
  · rw [seg_far hput (by rw [hlen]; omega)]
    exact h.good.area
  · rw [slotT_congr (seg_far hput (by rw [hlen]; omega)) hl]
    exact h.good.slot
  · intro c
    have hT : T = 0 := by omega
    refine ⟨hT, ?_⟩
    have hz : (slotT (putAt B (24 * ((T + 1) % 2)) ((slotB (T + 1) e').take n)) ((T + 1) % 2)).1 = 0 := by omega
    unfold slotT at hz ⊢
    split at hz
    · rename_i c
      exact absurd hz c.2.1
    · rename_i c
      rw [if_neg c]
/-- Appended whole, journals that only grew stay so. -/
theorem clean_app {B : List Nat} {T : Nat} {l : List (List Nat)} {r : List Nat} (h : CleanJ B T l) (hm : mayR B l r) (hT : T + 1 ≤ 4000000) (hc : ∃ t e, seg B (24 * (T % 2)) 24 = slotB t e ∧ t = T ∧ e < 4611686018427387904) :
    CleanJ (putS (putR B (encRs l).length r) T ((encRs l).length + 2 + r.length) 24) (T + 1) (l ++ [r]) ∧ (∃ t e, seg (putS (putR B (encRs l).length r) T ((encRs l).length + 2 + r.length) 24) (24 * ((T + 1) % 2)) 24 = slotB t e ∧ t = T + 1 ∧ e < 4611686018427387904) := by
  have hs := h.good.size
  obtain ⟨m1, m2, m3⟩ := hm
  have hk : (T + 1) % 2 < 2 := Nat.mod_lt _ (by omega)
  have hp : 48 + (encRs l).length + (encR r).length ≤ B.length := by rw [encR_len]; omega
  have hl1 : (putR B (encRs l).length r).length = B.length := putAt_len hp
  have htk : (slotB (T + 1) ((encRs l).length + 2 + r.length)).take 24 = slotB (T + 1) ((encRs l).length + 2 + r.length) := List.take_of_length_le (by rw [slotB_len]; exact Nat.le_refl _)
  have hput : 24 * ((T + 1) % 2) + (slotB (T + 1) ((encRs l).length + 2 + r.length)).length ≤ (putR B (encRs l).length r).length := by rw [slotB_len]; omega
  refine ⟨⟨good_app h.good ⟨m1, m2, m3⟩ hT, ?_⟩, ?_⟩
  · obtain ⟨t, e, h1, h2, h3⟩ := hc
    refine ⟨t, e, ?_, by omega, h3⟩
    unfold putS
    rw [htk, show (T + 1 + 1) % 2 = T % 2 by omega, seg_far hput (by rw [slotB_len]; omega)]
    unfold putR
    rw [seg_far hp (by omega)]
    exact h1
  · refine ⟨T + 1, (encRs l).length + 2 + r.length, ?_, rfl, by omega⟩
    unfold putS
    rw [htk, seg_in hput (Nat.le_refl _) (by rw [slotB_len]; exact Nat.le_refl _), Nat.sub_self]
    rfl
/-- All 0: no records. -/
theorem clean_new {n : Nat} (h1 : 64 ≤ n) (h2 : n ≤ 4000) : CleanJ (List.replicate n 0) 0 [] ∧ (∃ t e, seg (List.replicate n 0) (24 * (0 % 2)) 24 = slotB t e ∧ t = 0 ∧ e < 4611686018427387904) := by
  have hz : ∀ k, 24 * k + 24 ≤ n → seg (List.replicate n 0) (24 * k) 24 = slotB 0 0 := fun k hk => by
    unfold seg
    rw [List.drop_replicate, List.take_replicate, show min 24 (n - 24 * k) = 24 by omega]
    rfl
  have hs : ∀ k, 24 * k + 24 ≤ n → slotT (List.replicate n 0) k = (0, 0) := fun k hk => by
    rw [slotT_slot (hz k hk) (by omega) (by omega)]
    simp
  refine ⟨⟨⟨by simp; omega, fun r hr => by simp at hr, by simp [encRs], rfl, by omega, ?_, fun _ => ⟨rfl, hs 1 (by omega)⟩⟩, 0, 0, hz 1 (by omega), rfl, by omega⟩, 0, 0, hz 0 (by omega), rfl, by omega⟩
  show slotT _ 0 = _
  rw [hs 0 (by omega)]
  rfl
end Go.Proofs.Ytoikgkjkcampkaa
