/-
  Layer 11's mathematics: lists of revoked serials, merged; their bytes. No program.
-/
import Derived.Test.YtldnncamaglofaaK0
namespace Go.Proofs.Ytldnncamaglofaa

abbrev Rv := Int × Int
def rvS (l : List Rv) (i : Nat) : Int := (l.getD i (0, 0)).1
def rvF (l : List Rv) (i : Nat) : Int := (l.getD i (0, 0)).2
def okR (l : List Rv) (i : Nat) : Prop := 1 ≤ rvS l i ∧ rvS l i ≤ 2147483647 ∧ 0 ≤ rvF l i ∧ rvF l i ≤ 1073741824 ∧ (0 < i → rvS l (i - 1) < rvS l i)
instance (l : List Rv) (i : Nat) : Decidable (okR l i) := by unfold okR; exact inferInstance
def mayRs (l : List Rv) : Bool := decide (l.length ≤ 200 ∧ ∀ i, i < l.length → okR l i)
/-- Serials rise. -/
def Ris : List Rv → Prop
  | [] => True
  | [_] => True
  | x :: y :: r => x.1 < y.1 ∧ Ris (y :: r)
theorem Ris.tail {x : Rv} {l : List Rv} (h : Ris (x :: l)) : Ris l := by
  cases l with
  | nil => trivial
  | cons y r => exact h.2
theorem Ris.head {x : Rv} {l : List Rv} (h : Ris (x :: l)) : ∀ y ∈ l, x.1 < y.1 := by
  induction l generalizing x with
  | nil => intro y hy; cases hy
  | cons z r ih =>
    intro y hy
    rcases List.mem_cons.1 hy with rfl | hy
    · exact h.1
    · exact Int.lt_trans h.1 (ih h.2 y hy)
theorem Ris.cons {x : Rv} {l : List Rv} (h : ∀ y ∈ l, x.1 < y.1) (hl : Ris l) : Ris (x :: l) := by
  cases l with
  | nil => trivial
  | cons y r => exact ⟨h y List.mem_cons_self, hl⟩
theorem ris_of : ∀ {l : List Rv}, (∀ i, i < l.length → 0 < i → rvS l (i - 1) < rvS l i) → Ris l
  | [], _ => trivial
  | [_], _ => trivial
  | x :: y :: r, h => ⟨h 1 (by simp) (by decide), ris_of fun i hi h0 => by
      have := h (i + 1) (by simpa using hi) (by omega)
      obtain ⟨k, rfl⟩ : ∃ k, i = k + 1 := ⟨i - 1, by omega⟩
      exact this⟩
theorem of_ris : ∀ {l : List Rv}, Ris l → ∀ i, i < l.length → 0 < i → rvS l (i - 1) < rvS l i
  | [], _, _, h, _ => by simp at h
  | [_], _, i, h, h0 => by simp at h; omega
  | x :: y :: r, h, i, hi, h0 => by
    obtain ⟨k, rfl⟩ : ∃ k, i = k + 1 := ⟨i - 1, by omega⟩
    by_cases hk : k = 0
    · subst hk; exact h.1
    · have := of_ris h.2 k (by simpa using hi) (by omega)
      obtain ⟨j, rfl⟩ : ∃ j, k = j + 1 := ⟨k - 1, by omega⟩
      exact this
theorem mayRs_ris {l : List Rv} (h : mayRs l = true) : Ris l := ris_of fun i hi h0 => ((of_decide_eq_true h).2 i hi).2.2.2.2 h0

/-! ### from when a serial is revoked -/
def look : List Rv → Int → Option Int
  | [], _ => none
  | x :: r, s => if x.1 = s then some x.2 else look r s
theorem look_none {l : List Rv} {s : Int} (h : ∀ y ∈ l, y.1 ≠ s) : look l s = none := by
  induction l with
  | nil => rfl
  | cons x r ih =>
    show (if x.1 = s then _ else _) = _
    rw [if_neg (h x List.mem_cons_self)]
    exact ih fun y hy => h y (List.mem_cons_of_mem _ hy)
theorem look_mem {l : List Rv} {s f : Int} (h : look l s = some f) : (s, f) ∈ l := by
  induction l with
  | nil => cases h
  | cons x r ih =>
    unfold look at h
    split at h
    · rename_i e
      injection h with h
      subst e h
      exact List.mem_cons_self
    · exact List.mem_cons_of_mem _ (ih h)
def isR (l : List Rv) (s t : Int) : Bool := match look l s with
  | some f => decide (0 ≤ f) && decide (f ≤ t)
  | none => false
/-- Two rising lists that tell the same of each serial are the same. -/
theorem look_ext : ∀ {a b : List Rv}, Ris a → Ris b → (∀ s, look a s = look b s) → a = b
  | [], [], _, _, _ => rfl
  | [], y :: r, _, _, h => by
    have := h y.1
    unfold look at this
    simp at this
  | x :: r, [], _, _, h => by
    have := h x.1
    unfold look at this
    simp at this
  | x :: r, y :: q, ha, hb, h => by
    have hx := h x.1
    have hy := h y.1
    have e : x.1 = y.1 := by
      by_cases hlt : x.1 < y.1
      · have hn : look (y :: q) x.1 = none := look_none fun z hz => by
          rcases List.mem_cons.1 hz with rfl | hz
          · omega
          · have := hb.head z hz; omega
        rw [hn] at hx
        unfold look at hx
        simp at hx
      · by_cases hgt : y.1 < x.1
        · have hn : look (x :: r) y.1 = none := look_none fun z hz => by
            rcases List.mem_cons.1 hz with rfl | hz
            · omega
            · have := ha.head z hz; omega
          rw [hn] at hy
          unfold look at hy
          simp at hy
        · omega
    have e2 : x.2 = y.2 := by
      unfold look at hx
      rw [if_pos rfl, if_pos e.symm] at hx
      exact Option.some.inj hx
    have e3 : r = q := look_ext ha.tail hb.tail fun s => by
      by_cases hs : x.1 = s
      · rw [look_none fun z hz => by have := ha.head z hz; omega, look_none fun z hz => by have := hb.head z hz; omega]
      · have := h s
        unfold look at this
        rwa [if_neg hs, if_neg (by omega)] at this
    rw [Prod.ext e e2, e3]

/-! ### one put in among others -/
def insR (x : Rv) : List Rv → List Rv
  | [] => [x]
  | y :: r => if y.1 < x.1 then y :: insR x r else if y.1 = x.1 then (y.1, if x.2 < y.2 then x.2 else y.2) :: r else x :: y :: r
theorem insR_mem {x : Rv} {l : List Rv} : ∀ z ∈ insR x l, z.1 = x.1 ∨ z ∈ l := by
  induction l with
  | nil => intro z hz; rw [List.mem_singleton.1 hz]; exact .inl rfl
  | cons y r ih =>
    intro z hz
    unfold insR at hz
    split at hz
    · rcases List.mem_cons.1 hz with rfl | hz
      · exact .inr List.mem_cons_self
      · exact (ih z hz).imp id (List.mem_cons_of_mem _)
    · split at hz
      · rename_i e
        rcases List.mem_cons.1 hz with rfl | hz
        · exact .inl e
        · exact .inr (List.mem_cons_of_mem _ hz)
      · rcases List.mem_cons.1 hz with rfl | hz
        · exact .inl rfl
        · exact .inr hz
theorem insR_ris {x : Rv} : ∀ {l : List Rv}, Ris l → Ris (insR x l)
  | [], _ => trivial
  | y :: r, h => by
    unfold insR
    split
    · rename_i hlt
      exact Ris.cons (fun z hz => (insR_mem z hz).elim (fun e => by omega) (h.head z)) (insR_ris h.tail)
    · split
      · exact Ris.cons (fun z hz => h.head z hz) h.tail
      · rename_i h1 h2
        exact Ris.cons (fun z hz => by
          rcases List.mem_cons.1 hz with rfl | hz
          · omega
          · have := h.head z hz; omega) h
/-- The lesser of what two lists tell. -/
def both : Option Int → Option Int → Option Int
  | some a, some b => some (if b < a then b else a)
  | some a, none => some a
  | none, some b => some b
  | none, none => none
theorem both_comm (a b : Option Int) : both a b = both b a := by
  cases a <;> cases b <;> simp only [both, Option.some.injEq]
  split <;> split <;> omega
theorem look_ins {x : Rv} {s : Int} : ∀ {l : List Rv}, Ris l → look (insR x l) s = if x.1 = s then both (look l s) (some x.2) else look l s
  | [], _ => by
    unfold insR look
    split <;> rfl
  | y :: r, h => by
    unfold insR
    split
    · rename_i hlt
      have ih := look_ins (x := x) (s := s) h.tail
      unfold look
      rw [ih]
      by_cases hs : y.1 = s
      · rw [if_pos hs, if_pos hs, if_neg (by omega)]
      · rw [if_neg hs, if_neg hs]
    · split
      · rename_i h1 e
        unfold look
        by_cases hs : x.1 = s
        · have hys : y.1 = s := by omega
          rw [if_pos hys, if_pos hs, if_pos hys]
          rfl
        · have hys : ¬ y.1 = s := by omega
          rw [if_neg hys, if_neg hs, if_neg hys]
      · rename_i h1 h2
        have hn : x.1 = s → look (y :: r) s = none := fun e => look_none fun z hz => by
          rcases List.mem_cons.1 hz with rfl | hz
          · omega
          · have := h.head z hz; omega
        show (if x.1 = s then some x.2 else look (y :: r) s) = _
        by_cases hs : x.1 = s
        · rw [if_pos hs, if_pos hs, hn hs]
          rfl
        · rw [if_neg hs, if_neg hs]
def mergeR (a : List Rv) : List Rv → List Rv
  | [] => a
  | x :: r => mergeR (insR x a) r
theorem mergeR_snoc : ∀ (a b : List Rv) (x : Rv), mergeR a (b ++ [x]) = insR x (mergeR a b)
  | _, [], _ => rfl
  | a, y :: r, x => mergeR_snoc (insR y a) r x
theorem mergeR_ris : ∀ {b a : List Rv}, Ris a → Ris (mergeR a b)
  | [], _, h => h
  | x :: r, a, h => by
    show Ris (mergeR (insR x a) r)
    exact mergeR_ris (insR_ris h)
theorem look_merge {s : Int} : ∀ {b a : List Rv}, Ris a → Ris b → look (mergeR a b) s = both (look a s) (look b s)
  | [], a, _, _ => by
    show look a s = both (look a s) none
    cases look a s <;> rfl
  | x :: r, a, ha, hb => by
    show look (mergeR (insR x a) r) s = _
    rw [look_merge (insR_ris ha) hb.tail, look_ins ha]
    show _ = both (look a s) (if x.1 = s then some x.2 else look r s)
    by_cases hs : x.1 = s
    · rw [if_pos hs, if_pos hs, look_none (l := r) fun z hz => by have := hb.head z hz; omega]
      cases look a s <;> rfl
    · rw [if_neg hs, if_neg hs]
theorem merge_comm {a b : List Rv} (ha : Ris a) (hb : Ris b) : mergeR a b = mergeR b a :=
  look_ext (mergeR_ris ha) (mergeR_ris hb) fun s => by rw [look_merge ha hb, look_merge hb ha, both_comm]
theorem look_from {l : List Rv} (h : mayRs l = true) {s f : Int} (hl : look l s = some f) : 0 ≤ f := by
  have hm := look_mem hl
  obtain ⟨i, hi, e⟩ := List.mem_iff_getElem.1 hm
  have := ((of_decide_eq_true h).2 i hi).2.2.1
  unfold rvF at this
  rw [List.getD_eq_getElem?_getD, List.getElem?_eq_getElem hi, e] at this
  exact this
theorem is_merge {a b : List Rv} (ha : mayRs a = true) (hb : mayRs b = true) (s t : Int) : isR (mergeR a b) s t = (isR a s t || isR b s t) := by
  have hA := fun f => look_from (s := s) (f := f) ha
  have hB := fun f => look_from (s := s) (f := f) hb
  unfold isR
  rw [look_merge (mayRs_ris ha) (mayRs_ris hb)]
  revert hA hB
  cases look a s with
  | none => cases look b s <;> intro _ _ <;> simp [both]
  | some f =>
    cases look b s with
    | none => intro _ _; simp [both]
    | some g =>
      intro hA hB
      have h1 := hA f rfl
      have h2 := hB g rfl
      simp only [both]
      by_cases hgf : g < f
      · rw [if_pos hgf, Bool.eq_iff_iff]
        simp only [Bool.and_eq_true, Bool.or_eq_true, decide_eq_true_eq]
        omega
      · rw [if_neg hgf, Bool.eq_iff_iff]
        simp only [Bool.and_eq_true, Bool.or_eq_true, decide_eq_true_eq]
        omega
theorem is_later {l : List Rv} {s t u : Int} (h : isR l s t = true) (hu : t ≤ u) : isR l s u = true := by
  unfold isR at *
  revert h
  cases look l s with
  | none => intro h; cases h
  | some f =>
    intro h
    simp only [Bool.and_eq_true, decide_eq_true_eq] at h ⊢
    omega
end Go.Proofs.Ytldnncamaglofaa
