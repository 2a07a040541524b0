/-
  Layer 8's mathematics: fields, their bytes, the fields of bytes; a number's bytes, and the number of bytes. No program.
-/
import Derived.Test.YtoikgkjkcampkaaRows
namespace Go.Proofs.Ytoikgkjkcampkaa

/-- A field: its Tag, its bytes. -/
abbrev Fd := Int × List Nat
def tgF (fs : List Fd) (i : Nat) : Int := (fs.getD i (0, [])).1
def bsF (fs : List Fd) (i : Nat) : List Nat := (fs.getD i (0, [])).2
/-- Field i is as it may be, by itself and behind the one ahead of it. -/
def okF (fs : List Fd) (i : Nat) : Prop := 1 ≤ tgF fs i ∧ tgF fs i ≤ 255 ∧ (bsF fs i).length ≤ 65535 ∧ (0 < i → tgF fs (i - 1) < tgF fs i)
instance (fs : List Fd) (i : Nat) : Decidable (okF fs i) := by unfold okF; exact inferInstance
def mayFs (fs : List Fd) : Bool := decide (fs.length ≤ 64 ∧ ∀ i, i < fs.length → okF fs i)
/-- All are bytes. -/
def Byt (bs : List Nat) : Prop := ∀ b ∈ bs, b < 256
theorem Byt.getD {bs : List Nat} (h : Byt bs) (i : Nat) : bs.getD i 0 < 256 := by
  rw [List.getD_eq_getElem?_getD]
  by_cases hi : i < bs.length
  · rw [List.getElem?_eq_getElem hi]; exact h _ (List.getElem_mem hi)
  · rw [List.getElem?_eq_none (by omega)]; decide
theorem Byt.append {a b : List Nat} (ha : Byt a) (hb : Byt b) : Byt (a ++ b) := fun x hx => (List.mem_append.1 hx).elim (ha x) (hb x)
theorem Byt.drop {a : List Nat} (h : Byt a) (n : Nat) : Byt (a.drop n) := fun x hx => h x (List.mem_of_mem_drop hx)
theorem Byt.take {a : List Nat} (h : Byt a) (n : Nat) : Byt (a.take n) := fun x hx => h x (List.mem_of_mem_take hx)
def BytF (fs : List Fd) : Prop := ∀ f ∈ fs, Byt f.2

/-! ### a field's bytes -/
def hdr (f : Fd) : List Nat := [(f.1 % 256).toNat, f.2.length / 256 % 256, f.2.length % 256]
def enc1 (f : Fd) : List Nat := hdr f ++ f.2
def encF : List Fd → List Nat
  | [] => []
  | f :: r => enc1 f ++ encF r
theorem encF_append : ∀ a b : List Fd, encF (a ++ b) = encF a ++ encF b
  | [], b => rfl
  | f :: a, b => by
    show enc1 f ++ encF (a ++ b) = (enc1 f ++ encF a) ++ encF b
    rw [encF_append a b, List.append_assoc]
theorem enc1_length (f : Fd) : (enc1 f).length = 3 + f.2.length := by unfold enc1 hdr; simp; omega
theorem encF_length_le : ∀ (fs : List Fd) (m : Nat), (∀ f ∈ fs, f.2.length ≤ m) → (encF fs).length ≤ fs.length * (m + 3)
  | [], _, _ => by simp [encF]
  | f :: fs, m, h => by
    have h1 := encF_length_le fs m fun g hg => h g (List.mem_cons_of_mem _ hg)
    have h2 := h f List.mem_cons_self
    show (enc1 f ++ encF fs).length ≤ _
    rw [List.length_append, enc1_length, List.length_cons, Nat.add_mul]
    omega
theorem hdr_byt (f : Fd) : Byt (hdr f) := fun x hx => by
  unfold hdr at hx
  simp only [List.mem_cons, List.not_mem_nil, or_false] at hx
  omega
theorem enc1_byt {f : Fd} (h : Byt f.2) : Byt (enc1 f) := (hdr_byt f).append h
theorem encF_byt : ∀ {fs : List Fd}, BytF fs → Byt (encF fs)
  | [], _ => fun x hx => by cases hx
  | f :: fs, h => (enc1_byt (h f List.mem_cons_self)).append (encF_byt fun g hg => h g (List.mem_cons_of_mem _ hg))
/-- The first i + 1 fields' bytes. -/
theorem encF_take (fs : List Fd) {i : Nat} (hi : i < fs.length) : encF (fs.take (i + 1)) = encF (fs.take i) ++ enc1 (tgF fs i, bsF fs i) := by
  have e : fs.getD i (0, []) = fs[i] := by rw [List.getD_eq_getElem?_getD, List.getElem?_eq_getElem hi]; rfl
  rw [List.take_add_one, List.getElem?_eq_getElem hi, encF_append]
  congr 1
  show enc1 fs[i] ++ encF [] = _
  unfold tgF bsF
  rw [e]
  exact List.append_nil _

/-! ### the fields of bytes -/
def parseF : Nat → List Nat → Option (List Fd)
  | _, [] => some []
  | 0, _ :: _ => none
  | k + 1, t :: h :: l :: r => if 256 * h + l ≤ r.length then (parseF k (r.drop (256 * h + l))).map (((t : Int), r.take (256 * h + l)) :: ·) else none
  | _ + 1, _ => none
theorem parseF_fuel : ∀ (k m : Nat) (bs : List Nat), bs.length ≤ k → bs.length ≤ m → parseF k bs = parseF m bs
  | k, m, [], _, _ => by cases k <;> cases m <;> rfl
  | 0, _, b :: bs, h, _ => by simp at h
  | _, 0, b :: bs, _, h => by simp at h
  | k + 1, m + 1, [a], _, _ => rfl
  | k + 1, m + 1, [a, b], _, _ => rfl
  | k + 1, m + 1, t :: h :: l :: r, h1, h2 => by
    simp only [List.length_cons] at h1 h2
    show (if _ then _ else _) = (if _ then _ else _)
    have hr : (r.drop (256 * h + l)).length ≤ r.length := by rw [List.length_drop]; omega
    rw [parseF_fuel k m (r.drop (256 * h + l)) (by omega) (by omega)]
def parse (bs : List Nat) : Option (List Fd) := parseF bs.length bs
def getFs (bs : List Nat) : Option (List Fd) := (parse bs).filter mayFs
theorem parse_nil : parse [] = some [] := rfl
theorem parse_cons (t h l : Nat) (r : List Nat) : parse (t :: h :: l :: r) = if 256 * h + l ≤ r.length then (parse (r.drop (256 * h + l))).map (((t : Int), r.take (256 * h + l)) :: ·) else none := by
  show (if _ then _ else _) = _
  by_cases hc : 256 * h + l ≤ r.length
  · rw [if_pos hc, if_pos hc]
    unfold parse
    rw [parseF_fuel (h :: l :: r).length (r.drop (256 * h + l)).length _ (by rw [List.length_drop]; simp only [List.length_cons]; omega) (Nat.le_refl _)]
  · rw [if_neg hc, if_neg hc]
theorem drop3 {bs : List Nat} {a : Nat} (h : a + 3 ≤ bs.length) : bs.drop a = bs.getD a 0 :: bs.getD (a + 1) 0 :: bs.getD (a + 2) 0 :: bs.drop (a + 3) := by
  have e : ∀ i, i < bs.length → bs.drop i = bs.getD i 0 :: bs.drop (i + 1) := fun i hi => by
    rw [List.drop_eq_getElem_cons hi, List.getD_eq_getElem?_getD, List.getElem?_eq_getElem hi]; rfl
  rw [e a (by omega), e (a + 1) (by omega), e (a + 2) (by omega)]
/-- How a field is read at place a. -/
theorem parse_more {bs : List Nat} {a n : Nat} (h : a + 3 ≤ bs.length) (hn : n = 256 * bs.getD (a + 1) 0 + bs.getD (a + 2) 0) (hl : a + 3 + n ≤ bs.length) :
    parse (bs.drop a) = (parse (bs.drop (a + 3 + n))).map ((((bs.getD a 0 : Nat) : Int), (bs.drop (a + 3)).take n) :: ·) := by
  rw [drop3 h, parse_cons, ← hn, List.length_drop, if_pos (by omega), List.drop_drop]
theorem parse_long {bs : List Nat} {a n : Nat} (h : a + 3 ≤ bs.length) (hn : n = 256 * bs.getD (a + 1) 0 + bs.getD (a + 2) 0) (hl : bs.length < a + 3 + n) : parse (bs.drop a) = none := by
  rw [drop3 h, parse_cons, ← hn, List.length_drop, if_neg (by omega)]
theorem parse_two {bs : List Nat} (h : bs.length < 3) (h0 : 0 < bs.length) : parse bs = none := by
  match bs, h, h0 with
  | [a], _, _ => rfl
  | [a, b], _, _ => rfl
theorem parse_short {bs : List Nat} {a : Nat} (h : bs.length < a + 3) (h0 : a < bs.length) : parse (bs.drop a) = none := parse_two (by rw [List.length_drop]; omega) (by rw [List.length_drop]; omega)
theorem parse_end (bs : List Nat) : parse (bs.drop bs.length) = some [] := by rw [List.drop_length]; rfl

/-! ### what was put is got as it was -/
theorem parse_enc_append {x : List Nat} : ∀ {fs : List Fd}, (∀ f ∈ fs, 0 ≤ f.1 ∧ f.1 ≤ 255 ∧ f.2.length ≤ 65535) → parse (encF fs ++ x) = (parse x).map (fs ++ ·)
  | [], _ => by
    show parse x = _
    cases parse x <;> rfl
  | (t, b) :: fs, h => by
    obtain ⟨h1, h2, h3⟩ := h (t, b) List.mem_cons_self
    simp only at h1 h2 h3
    have ih := parse_enc_append (x := x) (fs := fs) fun g hg => h g (List.mem_cons_of_mem _ hg)
    show parse ([(t % 256).toNat, b.length / 256 % 256, b.length % 256] ++ b ++ encF fs ++ x) = _
    have hn : 256 * (b.length / 256 % 256) + b.length % 256 = b.length := by omega
    simp only [List.cons_append, List.nil_append, List.append_assoc]
    rw [parse_cons, hn, if_pos (by simp), List.drop_left, List.take_left, ih]
    have ht : (((t % 256).toNat : Nat) : Int) = t := by omega
    rw [ht]
    cases parse x <;> rfl
theorem mayFs_each {fs : List Fd} (h : mayFs fs = true) : ∀ f ∈ fs, 0 ≤ f.1 ∧ f.1 ≤ 255 ∧ f.2.length ≤ 65535 := by
  intro f hf
  obtain ⟨i, hi, rfl⟩ := List.mem_iff_getElem.1 hf
  have h1 := (of_decide_eq_true h).2 i hi
  have e : fs.getD i (0, []) = fs[i] := by rw [List.getD_eq_getElem?_getD, List.getElem?_eq_getElem hi]; rfl
  unfold okF tgF bsF at h1
  rw [e] at h1
  exact ⟨by omega, h1.2.1, h1.2.2.1⟩
theorem parse_enc {fs : List Fd} (h : mayFs fs = true) : parse (encF fs) = some fs := by
  have := parse_enc_append (x := []) (mayFs_each h)
  rw [List.append_nil, parse_nil] at this
  simpa using this
theorem get_enc {fs : List Fd} (h : mayFs fs = true) : getFs (encF fs) = some fs := by
  unfold getFs
  rw [parse_enc h]
  simp [h]
theorem enc_parse : ∀ (k : Nat) {bs : List Nat} {fs : List Fd}, bs.length ≤ k → Byt bs → parse bs = some fs → encF fs = bs
  | _, [], fs, _, _, h => by
    rw [parse_nil] at h
    obtain rfl := Option.some.inj h
    rfl
  | _, [a], fs, _, _, h => by cases h
  | _, [a, b], fs, _, _, h => by cases h
  | 0, t :: h :: l :: r, fs, hk, _, _ => by simp at hk
  | k + 1, t :: h :: l :: r, fs, hk, hb, he => by
    rw [parse_cons] at he
    split at he
    · rename_i hc
      cases hp : parse (r.drop (256 * h + l)) with
      | none => rw [hp] at he; cases he
      | some gs =>
        rw [hp] at he
        obtain rfl := Option.some.inj he
        have hbt := hb t (by simp)
        have hbh := hb h (by simp)
        have hbl := hb l (by simp)
        have hr : Byt r := fun x hx => hb x (by simp [hx])
        simp only [List.length_cons] at hk
        have ih := enc_parse k (by rw [List.length_drop]; omega) (hr.drop _) hp
        show [((t : Int) % 256).toNat, (r.take (256 * h + l)).length / 256 % 256, (r.take (256 * h + l)).length % 256] ++ r.take (256 * h + l) ++ encF gs = _
        rw [ih, List.length_take, Nat.min_eq_left hc, List.append_assoc, List.take_append_drop]
        simp only [List.cons_append, List.nil_append]
        rw [show ((t : Int) % 256).toNat = t by omega, show (256 * h + l) / 256 % 256 = h by omega, show (256 * h + l) % 256 = l by omega]
    · cases he
theorem get_some {bs : List Nat} {fs : List Fd} (h : getFs bs = some fs) : parse bs = some fs ∧ mayFs fs = true := by
  unfold getFs at h
  rwa [Option.filter_eq_some_iff] at h
theorem enc_get {bs : List Nat} {fs : List Fd} (hb : Byt bs) (h : getFs bs = some fs) : encF fs = bs := enc_parse bs.length (Nat.le_refl _) hb (get_some h).1
theorem parse_byt : ∀ (k : Nat) {bs : List Nat} {fs : List Fd}, bs.length ≤ k → Byt bs → parse bs = some fs → BytF fs
  | _, [], fs, _, _, h => by
    rw [parse_nil] at h
    obtain rfl := Option.some.inj h
    intro f hf
    cases hf
  | _, [a], fs, _, _, h => by cases h
  | _, [a, b], fs, _, _, h => by cases h
  | 0, t :: h :: l :: r, fs, hk, _, _ => by simp at hk
  | k + 1, t :: h :: l :: r, fs, hk, hb, he => by
    rw [parse_cons] at he
    split at he
    · cases hp : parse (r.drop (256 * h + l)) with
      | none => rw [hp] at he; cases he
      | some gs =>
        rw [hp] at he
        obtain rfl := Option.some.inj he
        have hr : Byt r := fun x hx => hb x (by simp [hx])
        simp only [List.length_cons] at hk
        intro f hf
        rcases List.mem_cons.1 hf with rfl | hf
        · exact hr.take _
        · exact parse_byt k (by rw [List.length_drop]; omega) (hr.drop _) hp f hf
    · cases he
theorem get_byt {bs : List Nat} {fs : List Fd} (hb : Byt bs) (h : getFs bs = some fs) : BytF fs := parse_byt bs.length (Nat.le_refl _) hb (get_some h).1
/-- Bytes that are cut off within a field are none's. -/
theorem get_cut {fs : List Fd} (h : mayFs fs = true) {gs : List Fd} {f : Fd} (e : fs = gs ++ [f]) {at_ : Nat} (h1 : (encF gs).length < at_) (h2 : at_ < (encF fs).length) : getFs ((encF fs).take at_) = none := by
  have hea := mayFs_each h
  subst e
  have hf := hea f (by simp)
  have e2 : encF (gs ++ [f]) = encF gs ++ enc1 f := by
    rw [encF_append]
    congr 1
    exact List.append_nil _
  rw [e2] at h2 ⊢
  rw [List.length_append] at h2
  obtain ⟨d, rfl⟩ : ∃ d, at_ = (encF gs).length + d := ⟨at_ - (encF gs).length, by omega⟩
  rw [List.take_append, List.take_of_length_le (by omega), Nat.add_sub_cancel_left]
  have hd : d < (enc1 f).length := by omega
  have hn : parse ((enc1 f).take d) = none := by
    rw [enc1_length] at hd
    by_cases h3 : d < 3
    · refine parse_two ?_ ?_ <;> rw [List.length_take, enc1_length] <;> omega
    · obtain ⟨m, rfl⟩ : ∃ m, d = 3 + m := ⟨d - 3, by omega⟩
      have e3 : (enc1 f).take (3 + m) = (f.1 % 256).toNat :: (f.2.length / 256 % 256) :: (f.2.length % 256) :: f.2.take m := by
        unfold enc1 hdr
        rw [Nat.add_comm]
        rfl
      rw [e3, parse_cons, if_neg]
      rw [List.length_take]
      omega
  unfold getFs
  rw [parse_enc_append fun g hg => hea g (by simp [hg]), hn]
  rfl

/-! ### numbers -/
/-- A number's bytes: of one below 0 those of 2^64 more. -/
def numB (n : Int) : List Nat := (List.range 8).map fun i => (n % 18446744073709551616).toNat / 256 ^ (7 - i) % 256
def valB (bs : List Nat) : Nat := bs.foldl (fun n b => 256 * n + b) 0
/-- The number of bytes; -1: they are none's. -/
def ofB (bs : List Nat) : Int := if bs.length = 8 ∧ bs.getD 0 0 ≤ 127 then (valB bs : Nat) else -1
theorem numB_length (n : Int) : (numB n).length = 8 := by simp [numB]
theorem numB_byt (n : Int) : Byt (numB n) := fun x hx => by
  simp only [numB, List.mem_map] at hx
  obtain ⟨i, _, rfl⟩ := hx
  exact Nat.mod_lt _ (by decide)
theorem valB_snoc (bs : List Nat) (b : Nat) : valB (bs ++ [b]) = 256 * valB bs + b := by simp [valB]
theorem valB_take {bs : List Nat} {i : Nat} (hi : i < bs.length) : valB (bs.take (i + 1)) = 256 * valB (bs.take i) + bs.getD i 0 := by
  rw [List.take_add_one, List.getElem?_eq_getElem hi, List.getD_eq_getElem?_getD, List.getElem?_eq_getElem hi]
  exact valB_snoc _ _
theorem valB_lt {bs : List Nat} (h : Byt bs) (h0 : bs.getD 0 0 ≤ 127) : ∀ i, i < bs.length → valB (bs.take (i + 1)) < 128 * 256 ^ i
  | 0, hi => by
    rw [valB_take hi]
    simp [valB]
    simp only [List.getD_eq_getElem?_getD] at h0
    omega
  | i + 1, hi => by
    have h1 := valB_lt h h0 i (by omega)
    have h2 := h.getD (i + 1)
    rw [valB_take hi, Nat.pow_succ]
    omega
theorem valB_num (n : Int) : ∀ i, i ≤ 8 → valB ((numB n).take i) = (n % 18446744073709551616).toNat / 256 ^ (8 - i)
  | 0, _ => by
    show 0 = _
    rw [Nat.div_eq_of_lt]
    have : (256 : Nat) ^ (8 - 0) = 18446744073709551616 := by decide
    omega
  | i + 1, hi => by
    have h1 := valB_num n i (by omega)
    have hl : i < (numB n).length := by rw [numB_length]; omega
    rw [valB_take hl, h1]
    have e : (numB n).getD i 0 = (n % 18446744073709551616).toNat / 256 ^ (7 - i) % 256 := by
      rw [List.getD_eq_getElem?_getD]
      simp [numB, show i < 8 by omega]
    rw [e, show 8 - (i + 1) = 7 - i by omega, show 8 - i = (7 - i) + 1 by omega, Nat.pow_succ, ← Nat.div_div_eq_div_mul]
    omega
theorem ofB_num {n : Int} (h0 : -9223372036854775808 ≤ n) (h1 : n ≤ 9223372036854775807) : ofB (numB n) = if 0 ≤ n then n else -1 := by
  have hv := valB_num n 8 (by omega)
  rw [List.take_of_length_le (by rw [numB_length]; omega)] at hv
  have e : (numB n).getD 0 0 = (n % 18446744073709551616).toNat / 72057594037927936 % 256 := by
    have : (256 : Nat) ^ 7 = 72057594037927936 := by decide
    rw [← this]; rfl
  unfold ofB
  rw [numB_length, hv, e, Nat.sub_self, Nat.pow_zero, Nat.div_one]
  by_cases h : 0 ≤ n
  · rw [if_pos h, if_pos (by omega)]
    omega
  · rw [if_neg h, if_neg (by omega)]
theorem ofB_le {bs : List Nat} (h : Byt bs) : ofB bs ≤ 9223372036854775807 ∧ -1 ≤ ofB bs := by
  unfold ofB
  split
  · rename_i hc
    have h1 := valB_lt h hc.2 7 (by omega)
    rw [List.take_of_length_le (by omega)] at h1
    have : (128 : Nat) * 256 ^ 7 = 9223372036854775808 := by decide
    omega
  · omega
theorem numB_of {bs : List Nat} (h : Byt bs) (h0 : 0 ≤ ofB bs) : numB (ofB bs) = bs := by
  unfold ofB at h0 ⊢
  split at h0
  · rename_i hc
    rw [if_pos hc]
    have key : ∀ i, i ≤ 8 → valB (bs.take i) = valB bs / 256 ^ (8 - i) := by
      intro i hi
      obtain ⟨d, hd⟩ : ∃ d, d = 8 - i := ⟨_, rfl⟩
      rw [← hd]
      induction d generalizing i with
      | zero =>
        obtain rfl : i = 8 := by omega
        rw [List.take_of_length_le (by omega), Nat.pow_zero, Nat.div_one]
      | succ d ih =>
        have h2 := ih (i + 1) (by omega) (by omega)
        rw [valB_take (by omega)] at h2
        have h3 := h.getD i
        rw [Nat.pow_succ, ← Nat.div_div_eq_div_mul, ← h2]
        omega
    have hlt : valB bs < 18446744073709551616 := by
      have h1 := valB_lt h hc.2 7 (by omega)
      rw [List.take_of_length_le (by omega)] at h1
      have : (128 : Nat) * 256 ^ 7 = 9223372036854775808 := by decide
      omega
    apply List.ext_getElem?
    intro i
    by_cases hi : i < 8
    · have h1 := key (i + 1) (by omega)
      rw [valB_take (by omega)] at h1
      have h3 := h.getD i
      rw [List.getElem?_eq_getElem (by omega : i < bs.length)]
      have e : bs.getD i 0 = bs[i]'(by omega) := by rw [List.getD_eq_getElem?_getD, List.getElem?_eq_getElem (by omega : i < bs.length)]; rfl
      simp only [numB, List.getElem?_map, List.getElem?_range hi, Option.map_some]
      rw [← e, show 7 - i = 8 - (i + 1) by omega, show ((valB bs : Nat) : Int) % 18446744073709551616 = ((valB bs : Nat) : Int) by omega, Int.toNat_natCast, ← h1]
      congr 1
      omega
    · rw [List.getElem?_eq_none (by rw [numB_length]; omega), List.getElem?_eq_none (by omega)]
  · omega
/-- Of one below 0: each byte is 255 less that of the one that is as far above. -/
theorem numB_neg {n : Int} (h0 : -9223372036854775808 ≤ n) (h1 : n < 0) {i : Nat} (hi : i < 8) : (numB n).getD i 0 = 255 - (numB (-(n + 1))).getD i 0 := by
  have e : ∀ m : Int, (numB m).getD i 0 = (m % 18446744073709551616).toNat / 256 ^ (7 - i) % 256 := fun m => by
    rw [List.getD_eq_getElem?_getD]
    simp [numB, hi]
  rw [e, e]
  obtain ⟨k, hk⟩ : ∃ k : Nat, -(n + 1) = (k : Int) := ⟨(-(n + 1)).toNat, by omega⟩
  rw [hk, show (n % 18446744073709551616).toNat = 18446744073709551615 - k by omega, show ((k : Int) % 18446744073709551616).toNat = k by omega]
  have hk2 : k ≤ 18446744073709551615 := by omega
  clear hk e h0 h1
  match i, hi with
  | 0, _ => show (18446744073709551615 - k) / 72057594037927936 % 256 = 255 - k / 72057594037927936 % 256; omega
  | 1, _ => show (18446744073709551615 - k) / 281474976710656 % 256 = 255 - k / 281474976710656 % 256; omega
  | 2, _ => show (18446744073709551615 - k) / 1099511627776 % 256 = 255 - k / 1099511627776 % 256; omega
  | 3, _ => show (18446744073709551615 - k) / 4294967296 % 256 = 255 - k / 4294967296 % 256; omega
  | 4, _ => show (18446744073709551615 - k) / 16777216 % 256 = 255 - k / 16777216 % 256; omega
  | 5, _ => show (18446744073709551615 - k) / 65536 % 256 = 255 - k / 65536 % 256; omega
  | 6, _ => show (18446744073709551615 - k) / 256 % 256 = 255 - k / 256 % 256; omega
  | 7, _ => show (18446744073709551615 - k) / 1 % 256 = 255 - k / 1 % 256; omega
end Go.Proofs.Ytoikgkjkcampkaa
