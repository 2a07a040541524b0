/-
  Layer 11's mathematics: which lists may be; what they tell; their bytes; sorted and made compact they are merged.
-/
import Derived.Test.YtldnncamaglofaaJ0
namespace Go.Proofs.Ytldnncamaglofaa

theorem rv_get {l : List Rv} {i : Nat} (h : i < l.length) : l[i]? = some (l.getD i (0, 0)) := by rw [List.getD_eq_getElem?_getD, List.getElem?_eq_getElem h]; rfl
theorem mayRs_false {l : List Rv} {j : Nat} (hj : j < l.length) (h : ¬ okR l j) : mayRs l = false := decide_eq_false fun hh => h (hh.2 j hj)
theorem mayRs_len {l : List Rv} (h : ∀ j, j < l.length → okR l j) : mayRs l = decide (l.length ≤ 200) := by
  unfold mayRs
  by_cases hc : l.length ≤ 200
  · rw [decide_eq_true hc, decide_eq_true ⟨hc, h⟩]
  · rw [decide_eq_false hc, decide_eq_false fun hh => hc hh.1]
theorem mayRs_ok {l : List Rv} (h : mayRs l = true) {j : Nat} (hj : j < l.length) : okR l j := (of_decide_eq_true h).2 j hj
theorem mayRs_200 {l : List Rv} (h : mayRs l = true) : l.length ≤ 200 := (of_decide_eq_true h).1
theorem mayRs_each {l : List Rv} (h : mayRs l = true) : ∀ x ∈ l, 1 ≤ x.1 ∧ x.1 ≤ 2147483647 ∧ 0 ≤ x.2 ∧ x.2 ≤ 1073741824 := by
  intro x hx
  obtain ⟨j, hj, rfl⟩ := List.mem_iff_getElem.1 hx
  obtain ⟨h1, h2, h3, h4, _⟩ := mayRs_ok h hj
  unfold rvS rvF at *
  rw [List.getD_eq_getElem?_getD, List.getElem?_eq_getElem hj] at h1 h2 h3 h4
  exact ⟨h1, h2, h3, h4⟩

/-! ### what it tells -/
def fromR (l : List Rv) (s : Int) : Int := match look l s with
  | some f => f
  | none => -1
theorem isR_from (l : List Rv) (s t : Int) : isR l s t = (decide (0 ≤ fromR l s) && decide (fromR l s ≤ t)) := by
  unfold isR fromR
  cases look l s with
  | some f => rfl
  | none => rfl
theorem look_idx {s : Int} : ∀ {l : List Rv} {i : Nat}, i < l.length → (∀ j, j < i → rvS l j ≠ s) → rvS l i = s → look l s = some (rvF l i)
  | [], _, h, _, _ => by simp at h
  | x :: r, 0, _, _, h => by
    unfold look
    rw [if_pos (show x.1 = s from h)]
    rfl
  | x :: r, i + 1, hi, hn, h => by
    unfold look
    rw [if_neg (show ¬ x.1 = s from hn 0 (by omega))]
    exact look_idx (l := r) (i := i) (by simpa using hi) (fun j hj => hn (j + 1) (by omega)) h
theorem look_no {s : Int} {l : List Rv} (h : ∀ j, j < l.length → rvS l j ≠ s) : look l s = none := look_none fun y hy => by
  obtain ⟨j, hj, rfl⟩ := List.mem_iff_getElem.1 hy
  have := h j hj
  unfold rvS at this
  rwa [List.getD_eq_getElem?_getD, List.getElem?_eq_getElem hj] at this
theorem look_none_of {s : Int} : ∀ {l : List Rv}, look l s = none → ∀ y ∈ l, y.1 ≠ s
  | [], _, _, hy => by cases hy
  | x :: r, h, y, hy => by
    unfold look at h
    split at h
    · cases h
    · rename_i hne
      rcases List.mem_cons.1 hy with rfl | hy
      · exact hne
      · exact look_none_of h y hy
theorem look_of_mem {s f : Int} : ∀ {l : List Rv}, Ris l → (s, f) ∈ l → look l s = some f
  | [], _, h => by cases h
  | x :: r, hr, h => by
    unfold look
    rcases List.mem_cons.1 h with e | h
    · rw [← e, if_pos rfl]
    · have := hr.head _ h
      rw [if_neg (show ¬ x.1 = s from fun e => by have h2 : x.1 < s := this; omega)]
      exact look_of_mem hr.tail h
/-- Whether any of them tells it. -/
theorem any_isR {l : List Rv} (h : mayRs l = true) (s t : Int) : (l.any fun r => decide (r.1 = s) && decide (r.2 ≤ t)) = isR l s t := by
  unfold isR
  cases hl : look l s with
  | none =>
    rw [List.any_eq_false]
    intro y hy
    have := look_none_of hl y hy
    simp [this]
  | some f =>
    have hm := look_mem hl
    have h0 := look_from h hl
    show _ = (decide (0 ≤ f) && decide (f ≤ t))
    by_cases hf : f ≤ t
    · rw [decide_eq_true hf, decide_eq_true h0, List.any_eq_true.2 ⟨(s, f), hm, by simp [hf]⟩]
      rfl
    · rw [decide_eq_false hf, Bool.and_false, List.any_eq_false]
      intro y hy
      by_cases hs : y.1 = s
      · have : look l s = some y.2 := look_of_mem (mayRs_ris h) (by rw [← hs]; exact hy)
        rw [hl] at this
        obtain rfl := Option.some.inj this
        simp [hf]
      · simp [hs]

/-! ### bytes -/
def rvB (x : Rv) : List Nat := numB x.1 ++ numB x.2
def rvsB (l : List Rv) : List Nat := l.flatMap rvB
theorem rvB_length (x : Rv) : (rvB x).length = 16 := by simp [rvB, numB_length]
theorem rvsB_length : ∀ l : List Rv, (rvsB l).length = 16 * l.length
  | [] => rfl
  | x :: r => by
    show (rvB x ++ rvsB r).length = _
    rw [List.length_append, rvB_length, rvsB_length r, List.length_cons]
    omega
theorem rvB_byt (x : Rv) : Byt (rvB x) := (numB_byt _).append (numB_byt _)
theorem rvsB_byt : ∀ l : List Rv, Byt (rvsB l)
  | [] => fun _ h => by cases h
  | x :: r => (rvB_byt x).append (rvsB_byt r)
theorem rvsB_snoc (l : List Rv) (x : Rv) : rvsB (l ++ [x]) = rvsB l ++ rvB x := by simp [rvsB]
theorem rvs_step (l : List Rv) {i : Nat} (hi : i < l.length) : rvsB (l.take (i + 1)) = rvsB (l.take i) ++ (numB (rvS l i) ++ numB (rvF l i)) := by
  rw [List.take_succ_eq_append_getElem hi, rvsB_snoc]
  unfold rvB rvS rvF
  rw [List.getD_eq_getElem?_getD, List.getElem?_eq_getElem hi]
  rfl
def revB (l : List Rv) : List Nat := encF [((1 : Int), rvsB l)]
theorem rev_may {l : List Rv} (h : l.length ≤ 4000) : mayFs [((1 : Int), rvsB l)] = true := by
  refine decide_eq_true ⟨by simp, fun i hi => ?_⟩
  obtain rfl : i = 0 := by simpa using hi
  refine ⟨show (1 : Int) ≤ 1 by decide, show (1 : Int) ≤ 255 by decide, ?_, fun h => absurd h (by decide)⟩
  show (rvsB l).length ≤ 65535
  rw [rvsB_length]
  omega
/-- The one of sixteen bytes from the i-th ones on. -/
def rvAt (b : List Nat) (i : Nat) : Rv := (ofB ((b.drop (16 * i)).take 8), ofB ((b.drop (16 * i + 8)).take 8))
def rvsTo (b : List Nat) (i : Nat) : List Rv := (List.range i).map (rvAt b)
theorem rvsTo_length (b : List Nat) (i : Nat) : (rvsTo b i).length = i := by simp [rvsTo]
theorem rvsTo_succ (b : List Nat) (i : Nat) : rvsTo b (i + 1) = rvsTo b i ++ [rvAt b i] := by simp [rvsTo, List.range_succ]
def rvsOf (b : List Nat) : List Rv := rvsTo b (b.length / 16)
theorem rvs_drop : ∀ (l : List Rv) (i : Nat), i < l.length → (rvsB l).drop (16 * i) = numB (rvS l i) ++ (numB (rvF l i) ++ rvsB (l.drop (i + 1)))
  | [], _, h => by simp at h
  | x :: r, 0, _ => by
    show rvB x ++ rvsB r = _
    unfold rvB
    rw [List.append_assoc]
    rfl
  | x :: r, i + 1, h => by
    have e : 16 * (i + 1) = (rvB x).length + 16 * i := by rw [rvB_length]; omega
    show (rvB x ++ rvsB r).drop _ = _
    rw [e, ← List.drop_drop, List.drop_left, rvs_drop r i (by simpa using h)]
    rfl
theorem rvAt_rvsB {l : List Rv} (hl : ∀ x ∈ l, 0 ≤ x.1 ∧ x.1 ≤ 9223372036854775807 ∧ 0 ≤ x.2 ∧ x.2 ≤ 9223372036854775807) {i : Nat} (hi : i < l.length) : rvAt (rvsB l) i = l[i] := by
  obtain ⟨h1, h2, h3, h4⟩ := hl _ (List.getElem_mem hi)
  have es : rvS l i = l[i].1 := by unfold rvS; rw [List.getD_eq_getElem?_getD, List.getElem?_eq_getElem hi]; rfl
  have ef : rvF l i = l[i].2 := by unfold rvF; rw [List.getD_eq_getElem?_getD, List.getElem?_eq_getElem hi]; rfl
  unfold rvAt
  have hd := rvs_drop l i hi
  rw [← List.drop_drop, hd, List.take_left' (numB_length _), List.drop_left' (numB_length _), List.take_left' (numB_length _), es, ef, ofB_num (by omega) h2, ofB_num (by omega) h4, if_pos h1, if_pos h3]
theorem rvsOf_rvsB {l : List Rv} (hl : ∀ x ∈ l, 0 ≤ x.1 ∧ x.1 ≤ 9223372036854775807 ∧ 0 ≤ x.2 ∧ x.2 ≤ 9223372036854775807) : rvsOf (rvsB l) = l := by
  unfold rvsOf
  rw [rvsB_length, show 16 * l.length / 16 = l.length by omega]
  apply List.ext_getElem (by rw [rvsTo_length])
  intro i h1 h2
  have e : (rvsTo (rvsB l) l.length)[i] = rvAt (rvsB l) i := by simp [rvsTo]
  rw [e]
  exact rvAt_rvsB hl h2
/-- The list of bytes. -/
def revOf (bs : List Nat) : Option (List Rv) := (getFs bs).bind fun fs => if fs.length = 1 ∧ tgF fs 0 = 1 ∧ (bsF fs 0).length % 16 = 0 ∧ mayRs (rvsOf (bsF fs 0)) = true then some (rvsOf (bsF fs 0)) else none
theorem revOf_revB {l : List Rv} (h : mayRs l = true) : revOf (revB l) = some l := by
  have he : ∀ x ∈ l, 0 ≤ x.1 ∧ x.1 ≤ 9223372036854775807 ∧ 0 ≤ x.2 ∧ x.2 ≤ 9223372036854775807 := fun x hx => by
    obtain ⟨h1, h2, h3, h4⟩ := mayRs_each h x hx
    exact ⟨by omega, by omega, by omega, by omega⟩
  unfold revOf revB
  rw [get_enc (rev_may (by have := mayRs_200 h; omega)), Option.bind_some]
  have e : bsF [((1 : Int), rvsB l)] 0 = rvsB l := rfl
  rw [e, rvsOf_rvsB he, if_pos ⟨rfl, rfl, by rw [rvsB_length]; omega, h⟩]
theorem revOf_none {bs : List Nat} {fs : List Fd} (hg : getFs bs = some fs) (h : ¬ (fs.length = 1 ∧ tgF fs 0 = 1 ∧ (bsF fs 0).length % 16 = 0 ∧ mayRs (rvsOf (bsF fs 0)) = true)) : revOf bs = none := by
  unfold revOf
  rw [hg, Option.bind_some, if_neg h]
theorem revOf_some {bs : List Nat} {fs : List Fd} (hg : getFs bs = some fs) (h : fs.length = 1 ∧ tgF fs 0 = 1 ∧ (bsF fs 0).length % 16 = 0 ∧ mayRs (rvsOf (bsF fs 0)) = true) : revOf bs = some (rvsOf (bsF fs 0)) := by
  unfold revOf
  rw [hg, Option.bind_some, if_pos h]
theorem revOf_no {bs : List Nat} (hg : getFs bs = none) : revOf bs = none := by
  unfold revOf
  rw [hg]
  rfl

/-! ### made compact -/
def cptF (p : Int) : List Rv → List Rv
  | [] => []
  | y :: r => if y.1 = p then cptF p r else y :: cptF y.1 r
def cpt : List Rv → List Rv
  | [] => []
  | x :: r => x :: cptF x.1 r
theorem cptF_snoc : ∀ (l : List Rv) (q : Int) (p x : Rv), cptF q (l ++ [p] ++ [x]) = if x.1 = p.1 then cptF q (l ++ [p]) else cptF q (l ++ [p]) ++ [x]
  | [], q, p, x => by
    show (if p.1 = q then (if x.1 = q then [] else x :: []) else p :: (if x.1 = p.1 then [] else x :: [])) = if x.1 = p.1 then (if p.1 = q then [] else p :: []) else (if p.1 = q then [] else p :: []) ++ [x]
    by_cases h1 : p.1 = q
    · rw [if_pos h1, if_pos h1, ← h1]
      by_cases h2 : x.1 = p.1
      · rw [if_pos h2, if_pos h2]
      · rw [if_neg h2, if_neg h2]; rfl
    · rw [if_neg h1, if_neg h1]
      by_cases h2 : x.1 = p.1
      · rw [if_pos h2, if_pos h2]
      · rw [if_neg h2, if_neg h2]; rfl
  | y :: r, q, p, x => by
    show (if y.1 = q then cptF q (r ++ [p] ++ [x]) else y :: cptF y.1 (r ++ [p] ++ [x])) = if x.1 = p.1 then (if y.1 = q then cptF q (r ++ [p]) else y :: cptF y.1 (r ++ [p])) else (if y.1 = q then cptF q (r ++ [p]) else y :: cptF y.1 (r ++ [p])) ++ [x]
    rw [cptF_snoc r, cptF_snoc r]
    by_cases h1 : y.1 = q
    · rw [if_pos h1, if_pos h1]
    · rw [if_neg h1, if_neg h1]
      by_cases h2 : x.1 = p.1
      · rw [if_pos h2, if_pos h2]
      · rw [if_neg h2, if_neg h2]; rfl
theorem cpt_snoc (l : List Rv) (p x : Rv) : cpt (l ++ [p] ++ [x]) = if x.1 = p.1 then cpt (l ++ [p]) else cpt (l ++ [p]) ++ [x] := by
  cases l with
  | nil =>
    show p :: (if x.1 = p.1 then [] else x :: []) = if x.1 = p.1 then [p] else [p] ++ [x]
    by_cases h2 : x.1 = p.1
    · rw [if_pos h2, if_pos h2]
    · rw [if_neg h2, if_neg h2]; rfl
  | cons y r =>
    show y :: cptF y.1 (r ++ [p] ++ [x]) = if x.1 = p.1 then y :: cptF y.1 (r ++ [p]) else (y :: cptF y.1 (r ++ [p])) ++ [x]
    rw [cptF_snoc]
    by_cases h2 : x.1 = p.1
    · rw [if_pos h2, if_pos h2]
    · rw [if_neg h2, if_neg h2]; rfl
theorem cpt_take {l : List Rv} {i : Nat} (h0 : 0 < i) (hi : i < l.length) : cpt (l.take (i + 1)) = if rvS l i = rvS l (i - 1) then cpt (l.take i) else cpt (l.take i) ++ [l.getD i (0, 0)] := by
  obtain ⟨k, rfl⟩ : ∃ k, i = k + 1 := ⟨i - 1, by omega⟩
  rw [List.take_succ_eq_append_getElem hi, List.take_succ_eq_append_getElem (show k < l.length by omega), cpt_snoc]
  unfold rvS
  simp only [Nat.add_sub_cancel, List.getD_eq_getElem?_getD, List.getElem?_eq_getElem hi, List.getElem?_eq_getElem (show k < l.length by omega), Option.getD_some]
theorem cptF_len : ∀ (l : List Rv) (p : Int), (cptF p l).length ≤ l.length
  | [], _ => Nat.le_refl _
  | y :: r, p => by
    unfold cptF
    split
    · exact Nat.le_trans (cptF_len r p) (by simp)
    · have := cptF_len r y.1
      simp only [List.length_cons]
      omega
theorem cpt_len (l : List Rv) : (cpt l).length ≤ l.length := by
  cases l with
  | nil => exact Nat.le_refl _
  | cons x r =>
    have := cptF_len r x.1
    show (x :: cptF x.1 r).length ≤ _
    simp only [List.length_cons]
    omega
theorem cpt_1 {l : List Rv} (h : 0 < l.length) : 0 < (cpt l).length := by
  cases l with
  | nil => simp at h
  | cons x r => simp [cpt]
theorem look_cptF {s : Int} : ∀ (l : List Rv) (p : Int), s ≠ p → look (cptF p l) s = look l s
  | [], _, _ => rfl
  | y :: r, p, h => by
    unfold cptF
    by_cases h1 : y.1 = p
    · rw [if_pos h1, look_cptF r p h]
      show _ = if y.1 = s then _ else _
      rw [if_neg (by omega)]
    · rw [if_neg h1]
      show (if y.1 = s then _ else _) = if y.1 = s then _ else _
      by_cases h2 : y.1 = s
      · rw [if_pos h2, if_pos h2]
      · rw [if_neg h2, if_neg h2, look_cptF r y.1 (fun e => h2 e.symm)]
theorem look_cpt (l : List Rv) (s : Int) : look (cpt l) s = look l s := by
  cases l with
  | nil => rfl
  | cons x r =>
    show (if x.1 = s then _ else look (cptF x.1 r) s) = if x.1 = s then _ else look r s
    by_cases h2 : x.1 = s
    · rw [if_pos h2, if_pos h2]
    · rw [if_neg h2, if_neg h2, look_cptF r x.1 (fun e => h2 e.symm)]
def UpR (l : List Rv) : Prop := l.Pairwise fun x y => x.1 ≤ y.1
theorem cptF_ris : ∀ {l : List Rv} {p : Int}, UpR l → (∀ y ∈ l, p ≤ y.1) → (∀ y ∈ cptF p l, p < y.1) ∧ Ris (cptF p l)
  | [], _, _, _ => ⟨fun _ h => (nomatch h), trivial⟩
  | y :: r, p, hl, hp => by
    have hl' := List.pairwise_cons.1 hl
    unfold cptF
    by_cases h1 : y.1 = p
    · rw [if_pos h1]
      exact cptF_ris hl'.2 fun z hz => hp z (List.mem_cons_of_mem _ hz)
    · rw [if_neg h1]
      obtain ⟨h2, h3⟩ := cptF_ris hl'.2 hl'.1
      have h4 := hp y List.mem_cons_self
      refine ⟨fun z hz => ?_, Ris.cons h2 h3⟩
      rcases List.mem_cons.1 hz with rfl | hz
      · omega
      · have := h2 z hz; omega
theorem cpt_ris {l : List Rv} (h : UpR l) : Ris (cpt l) := by
  cases l with
  | nil => trivial
  | cons x r =>
    have hl' := List.pairwise_cons.1 h
    obtain ⟨h2, h3⟩ := cptF_ris hl'.2 hl'.1
    exact Ris.cons h2 h3

/-! ### sorted -/
def ci (a b : Int) : Int := if a < b then -1 else if b < a then 1 else 0
def cfR (x y : Rv) : Int := if ci x.1 y.1 = 0 then ci x.2 y.2 else ci x.1 y.1
def ltR (x y : Rv) : Prop := x.1 < y.1 ∨ (x.1 = y.1 ∧ x.2 < y.2)
theorem ci_lt (a b : Int) : ci a b < 0 ↔ a < b := by
  unfold ci
  by_cases h1 : a < b
  · rw [if_pos h1]; omega
  · rw [if_neg h1]
    by_cases h2 : b < a
    · rw [if_pos h2]; omega
    · rw [if_neg h2]; omega
theorem ci_eq (a b : Int) : ci a b = 0 ↔ a = b := by
  unfold ci
  by_cases h1 : a < b
  · rw [if_pos h1]; omega
  · rw [if_neg h1]
    by_cases h2 : b < a
    · rw [if_pos h2]; omega
    · rw [if_neg h2]; omega
theorem cfR_lt (x y : Rv) : cfR x y < 0 ↔ ltR x y := by
  unfold cfR ltR
  by_cases h : ci x.1 y.1 = 0
  · rw [if_pos h, ci_lt]
    have := (ci_eq _ _).1 h
    omega
  · rw [if_neg h, ci_lt]
    have h1 : ¬ x.1 = y.1 := fun e => h ((ci_eq _ _).2 e)
    omega
def Srt (l : List Rv) : Prop := l.Pairwise fun x y => ¬ ltR y x
theorem Srt.up {l : List Rv} (h : Srt l) : UpR l := h.imp fun {x y} hxy => by unfold ltR at hxy; omega
theorem look_min {s f : Int} : ∀ {l : List Rv}, Srt l → (s, f) ∈ l → (∀ g, (s, g) ∈ l → f ≤ g) → look l s = some f
  | [], _, h, _ => by cases h
  | x :: r, hs, hm, hg => by
    have hs' := List.pairwise_cons.1 hs
    unfold look
    by_cases h1 : x.1 = s
    · rw [if_pos h1]
      have h2 := hg x.2 (by rw [← h1]; exact List.mem_cons_self)
      rcases List.mem_cons.1 hm with e | hm
      · rw [← e]
      · have h3 := hs'.1 _ hm
        unfold ltR at h3
        have : x.2 = f := by
          have h4 : ¬ (s = x.1 ∧ f < x.2) := fun h => h3 (.inr h)
          omega
        rw [this]
    · rw [if_neg h1]
      rcases List.mem_cons.1 hm with e | hm
      · rw [← e] at h1; exact absurd rfl h1
      · exact look_min hs'.2 hm fun g hg' => hg g (List.mem_cons_of_mem _ hg')
/-- Both lists together, sorted, made compact, are merged. -/
theorem cpt_merge {a b d : List Rv} (ha : Ris a) (hb : Ris b) (hd : Srt d) (hp : d.Perm (a ++ b)) : cpt d = mergeR a b := by
  refine look_ext (cpt_ris hd.up) (mergeR_ris ha) fun s => ?_
  rw [look_cpt, look_merge ha hb]
  have hm : ∀ y, y ∈ d ↔ y ∈ a ∨ y ∈ b := fun y => by rw [hp.mem_iff, List.mem_append]
  cases h1 : look a s with
  | none =>
    have n1 := look_none_of h1
    cases h2 : look b s with
    | none =>
      have n2 := look_none_of h2
      exact look_none fun y hy => ((hm y).1 hy).elim (n1 y) (n2 y)
    | some g =>
      refine look_min hd ((hm _).2 (.inr (look_mem h2))) fun g' hg' => ?_
      rcases (hm _).1 hg' with h | h
      · exact absurd rfl (n1 _ h)
      · have := look_of_mem hb h
        rw [h2] at this
        have := Option.some.inj this
        omega
  | some f =>
    have u1 : ∀ g', (s, g') ∈ a → g' = f := fun g' h => by
      have := look_of_mem ha h
      rw [h1] at this
      exact (Option.some.inj this).symm
    cases h2 : look b s with
    | none =>
      have n2 := look_none_of h2
      refine look_min hd ((hm _).2 (.inl (look_mem h1))) fun g' hg' => ?_
      rcases (hm _).1 hg' with h | h
      · have := u1 _ h; omega
      · exact absurd rfl (n2 _ h)
    | some g =>
      have u2 : ∀ g', (s, g') ∈ b → g' = g := fun g' h => by
        have := look_of_mem hb h
        rw [h2] at this
        exact (Option.some.inj this).symm
      show look d s = some (if g < f then g else f)
      by_cases hgf : g < f
      · rw [if_pos hgf]
        refine look_min hd ((hm _).2 (.inr (look_mem h2))) fun g' hg' => ?_
        rcases (hm _).1 hg' with h | h
        · have := u1 _ h; omega
        · have := u2 _ h; omega
      · rw [if_neg hgf]
        refine look_min hd ((hm _).2 (.inl (look_mem h1))) fun g' hg' => ?_
        rcases (hm _).1 hg' with h | h
        · have := u1 _ h; omega
        · have := u2 _ h; omega
theorem insR_in {x : Rv} {l : List Rv} : ∀ z ∈ insR x l, z = x ∨ z ∈ l := by
  induction l with
  | nil => intro z hz; exact .inl (List.mem_singleton.1 hz)
  | cons y r ih =>
    intro z hz
    unfold insR at hz
    split at hz
    · rcases List.mem_cons.1 hz with rfl | hz
      · exact .inr List.mem_cons_self
      · exact (ih z hz).imp id (List.mem_cons_of_mem _)
    · split at hz
      · rename_i e
        rcases List.mem_cons.1 hz with rfl | hz
        · by_cases h : x.2 < y.2
          · rw [if_pos h, e]; exact .inl rfl
          · rw [if_neg h]; exact .inr List.mem_cons_self
        · exact .inr (List.mem_cons_of_mem _ hz)
      · rcases List.mem_cons.1 hz with rfl | hz
        · exact .inl rfl
        · exact .inr hz
theorem mergeR_in : ∀ {b a : List Rv}, ∀ z ∈ mergeR a b, z ∈ a ∨ z ∈ b
  | [], _, z, hz => .inl hz
  | x :: r, a, z, hz => by
    rcases mergeR_in (b := r) (a := insR x a) z hz with h | h
    · rcases insR_in z h with rfl | h
      · exact .inr List.mem_cons_self
      · exact .inl h
    · exact .inr (List.mem_cons_of_mem _ h)
theorem mergeR_may {a b : List Rv} (ha : mayRs a = true) (hb : mayRs b = true) (hl : (mergeR a b).length ≤ 200) : mayRs (mergeR a b) = true := by
  refine decide_eq_true ⟨hl, fun i hi => ?_⟩
  have hr := of_ris (mergeR_ris (b := b) (mayRs_ris ha)) i hi
  have hm : (mergeR a b).getD i (0, 0) ∈ mergeR a b := List.mem_of_getElem? (rv_get hi)
  have h4 : 1 ≤ ((mergeR a b).getD i (0, 0)).1 ∧ ((mergeR a b).getD i (0, 0)).1 ≤ 2147483647 ∧ 0 ≤ ((mergeR a b).getD i (0, 0)).2 ∧ ((mergeR a b).getD i (0, 0)).2 ≤ 1073741824 := (mergeR_in _ hm).elim (mayRs_each ha _) (mayRs_each hb _)
  exact ⟨h4.1, h4.2.1, h4.2.2.1, h4.2.2.2, hr⟩
theorem insR_len (x : Rv) : ∀ l : List Rv, (insR x l).length ≤ l.length + 1
  | [] => Nat.le_refl _
  | y :: r => by
    unfold insR
    split
    · have := insR_len x r
      simp only [List.length_cons]; omega
    · split <;> simp only [List.length_cons] <;> omega
theorem mergeR_len : ∀ (b a : List Rv), (mergeR a b).length ≤ a.length + b.length
  | [], _ => Nat.le_refl _
  | x :: r, a => by
    have h1 := mergeR_len r (insR x a)
    have h2 := insR_len x a
    show (mergeR (insR x a) r).length ≤ _
    simp only [List.length_cons]; omega
end Go.Proofs.Ytldnncamaglofaa
