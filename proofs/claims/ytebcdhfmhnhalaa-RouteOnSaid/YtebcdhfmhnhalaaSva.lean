/-
  Layer 12's mathematics: which services may be; on which days one runs; days come again by weeks.
-/
import Derived.Test.YtebcdhfmhnhalaaMath
namespace Go.Proofs.Ytebcdhfmhnhalaa

/-- A service: its weekdays' bits, its first day, the day ahead of which it ends, extra days, excepted days. -/
structure Sv where
  wk : Int
  fr : Int
  to : Int
  ex : List Int
  ec : List Int

theorem d_get {l : List Int} {i : Nat} (h : i < l.length) : l[i]? = some (l.getD i 0) := by rw [List.getD_eq_getElem?_getD, List.getElem?_eq_getElem h]; rfl
theorem d_mem {l : List Int} {i : Nat} (h : i < l.length) : l.getD i 0 ∈ l := List.mem_of_getElem? (d_get h)
theorem d_idx {l : List Int} {x : Int} (h : x ∈ l) : ∃ i, i < l.length ∧ l.getD i 0 = x := by
  obtain ⟨i, hi, rfl⟩ := List.mem_iff_getElem.1 h
  exact ⟨i, hi, by rw [List.getD_eq_getElem?_getD, List.getElem?_eq_getElem hi]; rfl⟩
/-- Among the first n there is none. -/
theorem d_not {l : List Int} {x : Int} (h : ∀ j, j < l.length → l.getD j 0 ≠ x) : decide (x ∈ l) = false := decide_eq_false fun hm => by
  obtain ⟨i, hi, e⟩ := d_idx hm
  exact h i hi e
theorem d_is {l : List Int} {x : Int} {i : Nat} (h : i < l.length) (e : l.getD i 0 = x) : decide (x ∈ l) = true := decide_eq_true (by rw [← e]; exact d_mem h)

def okD (l : List Int) (i : Nat) : Prop := 0 ≤ l.getD i 0 ∧ l.getD i 0 ≤ 1048576 ∧ (0 < i → l.getD (i - 1) 0 < l.getD i 0)
instance (l : List Int) (i : Nat) : Decidable (okD l i) := by unfold okD; infer_instance
/-- Days from 0 to 2^20, rising, at most 100. -/
def daysB (l : List Int) : Bool := decide (l.length ≤ 100 ∧ ∀ i, i < l.length → okD l i)
theorem daysB_false {l : List Int} {j : Nat} (hj : j < l.length) (h : ¬ okD l j) : daysB l = false := decide_eq_false fun hh => h (hh.2 j hj)
theorem daysB_len {l : List Int} (h : ∀ j, j < l.length → okD l j) : daysB l = decide (l.length ≤ 100) := by
  unfold daysB
  by_cases hc : l.length ≤ 100
  · rw [decide_eq_true hc, decide_eq_true ⟨hc, h⟩]
  · rw [decide_eq_false hc, decide_eq_false fun hh => hc hh.1]
theorem daysB_ok {l : List Int} (h : daysB l = true) {j : Nat} (hj : j < l.length) : okD l j := (of_decide_eq_true h).2 j hj
theorem daysB_100 {l : List Int} (h : daysB l = true) : l.length ≤ 100 := (of_decide_eq_true h).1
theorem daysB_long {l : List Int} (h : ¬ l.length ≤ 100) : daysB l = false := decide_eq_false fun hh => h hh.1
theorem daysB_mem {l : List Int} (h : daysB l = true) {x : Int} (hx : x ∈ l) : 0 ≤ x ∧ x ≤ 1048576 := by
  obtain ⟨i, hi, rfl⟩ := d_idx hx
  have := daysB_ok h hi
  exact ⟨this.1, this.2.1⟩

/-- None of a is among b. -/
def farB (a b : List Int) : Bool := decide (∀ i, i < a.length → a.getD i 0 ∉ b)
theorem farB_false {a b : List Int} {i : Nat} (hi : i < a.length) (h : a.getD i 0 ∈ b) : farB a b = false := decide_eq_false fun hh => hh i hi h
theorem farB_true {a b : List Int} (h : ∀ i, i < a.length → a.getD i 0 ∉ b) : farB a b = true := decide_eq_true h
def boundB (s : Sv) : Bool := decide (0 ≤ s.wk ∧ s.wk ≤ 127 ∧ 0 ≤ s.fr ∧ s.fr ≤ s.to ∧ s.to ≤ 1048576)
/-- It may be. -/
def mayV (s : Sv) : Bool := daysB s.ex && daysB s.ec && farB s.ex s.ec && boundB s
/-- One that may be runs on a day. -/
def runsV (s : Sv) (d : Int) : Bool := decide (d ∈ s.ex) || (!decide (d ∈ s.ec) && decide (s.fr ≤ d ∧ d < s.to ∧ s.wk / 2 ^ (d % 7).toNat % 2 = 1))
theorem mayV_parts {s : Sv} (h : mayV s = true) : daysB s.ex = true ∧ daysB s.ec = true ∧ farB s.ex s.ec = true ∧ 0 ≤ s.wk ∧ s.wk ≤ 127 ∧ 0 ≤ s.fr ∧ s.fr ≤ s.to ∧ s.to ≤ 1048576 := by
  unfold mayV at h
  simp only [Bool.and_eq_true] at h
  exact ⟨h.1.1.1, h.1.1.2, h.1.2, of_decide_eq_true h.2⟩
/-- It runs on no day below 0, and on none above 2^20. -/
theorem runsV_bound {s : Sv} (h : mayV s = true) {d : Int} (hr : runsV s d = true) : 0 ≤ d ∧ d ≤ 1048576 := by
  obtain ⟨he, _, _, _, _, h5, h6, h7⟩ := mayV_parts h
  unfold runsV at hr
  simp only [Bool.or_eq_true, Bool.and_eq_true, decide_eq_true_eq] at hr
  rcases hr with hr | ⟨_, h1, h2, _⟩
  · exact daysB_mem he hr
  · omega
/-- What Next tells: r, is. -/
def NextP (s : Sv) (d r : Int) (is : Bool) : Prop :=
  (is = true ∧ mayV s = true ∧ 0 ≤ d ∧ d ≤ r ∧ runsV s r = true ∧ ∀ x, d ≤ x → x < r → runsV s x = false) ∨
  (is = false ∧ r = 0 ∧ (mayV s = false ∨ d < 0 ∨ ∀ x, d ≤ x → runsV s x = false))
/-- What the document's own tells: within 3000 days. -/
def NearP (s : Sv) (d r : Int) : Prop :=
  (d ≤ r ∧ r < d + 3000 ∧ runsV s r = true ∧ ∀ x, d ≤ x → x < r → runsV s x = false) ∨ (r = -1 ∧ ∀ x, d ≤ x → x < d + 3000 → runsV s x = false)
theorem nextP_no {s : Sv} {d r : Int} {is : Bool} (h : NextP s d r is) (hn : mayV s = false ∨ d < 0 ∨ 1048576 < d) : is = false ∧ r = 0 := by
  rcases h with ⟨_, h1, h2, h3, h4, _⟩ | ⟨h1, h2, _⟩
  · have := runsV_bound h1 h4
    rcases hn with h | h | h
    · rw [h1] at h; cases h
    · omega
    · omega
  · exact ⟨h1, h2⟩
theorem near_next {s : Sv} {d r n : Int} {is : Bool} (h : NextP s d r is) (hm : mayV s = true) (hd : 0 ≤ d) (k : NearP s d n) (hn : 0 ≤ n) : is = true ∧ r = n := by
  rcases k with ⟨k1, k2, k3, k4⟩ | ⟨k1, _⟩
  · rcases h with ⟨h1, _, _, h3, h4, h5⟩ | ⟨_, _, h | h | h⟩
    · refine ⟨h1, ?_⟩
      by_cases c1 : r < n
      · rw [k4 r h3 c1] at h4; cases h4
      · by_cases c2 : n < r
        · rw [h5 n k1 c2] at k3; cases k3
        · omega
    · rw [hm] at h; cases h
    · omega
    · rw [h n k1] at k3; cases k3
  · omega
theorem far_next {s : Sv} {d r n : Int} {is : Bool} (h : NextP s d r is) (hd : 0 ≤ d) (k : NearP s d n) (hn : n < 0) (hi : is = true) : d + 3000 ≤ r ∧ r ≤ 1048576 ∧ mayV s = true ∧ runsV s r = true := by
  rcases k with ⟨k1, _⟩ | ⟨_, k2⟩
  · omega
  · rcases h with ⟨_, h2, _, h3, h4, _⟩ | ⟨h, _⟩
    · refine ⟨?_, (runsV_bound h2 h4).2, h2, h4⟩
      by_cases c : r < d + 3000
      · rw [k2 r h3 c] at h4; cases h4
      · omega
    · rw [hi] at h; cases h
/-- None is told: no extra day is ahead. -/
theorem none_next {s : Sv} {d r : Int} {is : Bool} (h : NextP s d r is) (hm : mayV s = true) (hd : 0 ≤ d) (hi : is = false) : r = 0 ∧ ∀ j, j < s.ex.length → s.ex.getD j 0 < d := by
  rcases h with ⟨h, _⟩ | ⟨_, h2, h | h | h⟩
  · rw [hi] at h; cases h
  · rw [hm] at h; cases h
  · omega
  · refine ⟨h2, fun j hj => ?_⟩
    by_cases c : s.ex.getD j 0 < d
    · exact c
    · have := h (s.ex.getD j 0) (by omega)
      unfold runsV at this
      rw [decide_eq_true (d_mem hj)] at this
      cases this
/-- Days come again by weeks. -/
theorem runsV_week {wk fr to d : Int} (h1 : fr ≤ d) (h2 : d + 7 < to) : runsV ⟨wk, fr, to, [], []⟩ (d + 7) = runsV ⟨wk, fr, to, [], []⟩ d := by
  unfold runsV
  have e : (d + 7) % 7 = d % 7 := by omega
  have e1 : (fr ≤ d + 7) = True := eq_true (by omega)
  have e2 : (d + 7 < to) = True := eq_true h2
  have e3 : (fr ≤ d) = True := eq_true h1
  have e4 : (d < to) = True := eq_true (by omega)
  simp [e, e1, e2, e3, e4]
theorem runsV_off {wk fr to d : Int} (h : ¬ (fr ≤ d ∧ d < to)) : runsV ⟨wk, fr, to, [], []⟩ d = false := by
  unfold runsV
  rw [decide_eq_false (p := _ ∧ _) fun hh => h ⟨hh.1, hh.2.1⟩]
  simp

/-! ### the document's example -/
theorem up_may : mayV ⟨2, 0, 14, [], []⟩ = true := by decide
theorem up_1 : runsV ⟨2, 0, 14, [], []⟩ 1 = true := by decide
theorem up_8 : runsV ⟨2, 0, 14, [], []⟩ 8 = true := by decide
theorem up_15 : runsV ⟨2, 0, 14, [], []⟩ 15 = false := by decide
theorem up_next {r : Int} {is : Bool} (h : NextP ⟨2, 0, 14, [], []⟩ 2 r is) : is = true ∧ r = 8 := by
  refine near_next h up_may (by decide) (.inl ⟨by decide, by decide, up_8, fun x h1 h2 => ?_⟩) (by decide)
  have : x = 2 ∨ x = 3 ∨ x = 4 ∨ x = 5 ∨ x = 6 ∨ x = 7 := by omega
  rcases this with rfl | rfl | rfl | rfl | rfl | rfl <;> decide

/-! ### bits -/
theorem pow2_nonneg (k : Nat) : (0 : Int) ≤ 2 ^ k := Int.pow_nonneg (by decide)
/-- A week, halved k times. -/
theorem half_step (w : Int) (h : 0 ≤ w) (k : Nat) : (w / 2 ^ k).tdiv 2 = w / 2 ^ (k + 1) := by
  have h1 : 0 ≤ w / 2 ^ k := Int.ediv_nonneg h (pow2_nonneg k)
  rw [Int.tdiv_eq_ediv_of_nonneg h1, Int.ediv_ediv_of_nonneg (pow2_nonneg k), Int.pow_succ]
theorem half_nonneg (w : Int) (h : 0 ≤ w) (k : Nat) : 0 ≤ w / 2 ^ k := Int.ediv_nonneg h (pow2_nonneg k)
theorem rem_one (x : Int) : (x % 2 == 1) = decide (x % 2 = 1) := by
  by_cases c : x % 2 = 1
  · rw [c]; rfl
  · rw [decide_eq_false c]
    simpa using c
end Go.Proofs.Ytebcdhfmhnhalaa
