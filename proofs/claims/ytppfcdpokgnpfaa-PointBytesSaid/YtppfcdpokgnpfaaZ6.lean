/-
  P-256: the group law of a curve over Fin n; primes by their roots; that its number of points makes far of every point.
-/
import Derived.WalkKit
namespace Go.Proofs.Ytppfcdpokgnpfaa.Pt
section law
variable {n : Nat} [NeZero n]

/-- A line of slope l through both, touching where they are one. -/
def Slope (a x1 y1 x2 y2 l : Fin n) : Prop := l * (x2 - x1) = y2 - y1 ∧ l * (y1 + y2) = x1 * x1 + x1 * x2 + x2 * x2 + a

def OnC (a b x y : Fin n) : Prop := y * y = x * x * x + a * x + b

/-- No product of two others is 0. -/
def NoZ (n : Nat) [NeZero n] : Prop := ∀ x y : Fin n, x * y = 0 → x = 0 ∨ y = 0

theorem mv1 {x1 y1 x2 y2 l : Fin n} (h : l * (x2 - x1) = y2 - y1) : y1 = y2 - l * (x2 - x1) := by grobner
theorem mv2 {x1 y1 x2 y2 l : Fin n} (h : l * (x2 - x1) = y2 - y1) : y2 = y1 + l * (x2 - x1) := by grobner

theorem slope_symm {a x1 y1 x2 y2 l : Fin n} (h : Slope a x1 y1 x2 y2 l) : Slope a x2 y2 x1 y1 l := by
  obtain ⟨h1, h2⟩ := h
  refine ⟨?_, ?_⟩ <;> grobner

theorem slope_uniq {a x1 y1 x2 y2 l m : Fin n} (hz : NoZ n) (hn : ¬ (x1 = x2 ∧ y1 + y2 = 0)) (h : Slope a x1 y1 x2 y2 l) (h' : Slope a x1 y1 x2 y2 m) : l = m := by
  obtain ⟨h1, h2⟩ := h
  obtain ⟨g1, g2⟩ := h'
  have e1 : (l - m) * (x2 - x1) = 0 := by grobner
  have e2 : (l - m) * (y1 + y2) = 0 := by grobner
  rcases hz _ _ e1 with h | h
  · grobner
  · rcases hz _ _ e2 with h' | h'
    · grobner
    · exact absurd ⟨by grobner, h'⟩ hn

/-- The third point of the line, turned over, is on the curve. -/
theorem on_third {a b x1 y1 x2 y2 l : Fin n} (h : OnC a b x1 y1) (hs : Slope a x1 y1 x2 y2 l) : OnC a b (l * l - x1 - x2) (l * (x1 - (l * l - x1 - x2)) - y1) := by
  obtain ⟨h1, h2⟩ := hs
  have ha : a = 2 * l * y1 + l * l * (x2 - x1) - x1 * x1 - x1 * x2 - x2 * x2 := by grobner
  have hb : b = y1 * y1 - x1 * x1 * x1 - a * x1 := by unfold OnC at h; grobner
  unfold OnC
  subst hb
  subst ha
  grobner

theorem tan0 {x3 xd y3 yd s : Fin n} (h : s * (x3 - xd) = y3 - yd) (hx : xd = x3) : yd = y3 := by subst hx; grobner
theorem tan1 {x1 x2 x3 y2 l m : Fin n} (hR : 2 * (l - m) * y2 = (x1 - x2) * (x1 + x2 + x3 - l * l) - (x3 - x2) * (x1 + x2 + x3 - m * m)) (h : l * l - x1 - x2 = x3) : (l - m) * (2 * y2 + (x3 - x2) * (l + m)) = 0 := by subst h; grobner
theorem tan2 {x2 x3 y2 y3 l m : Fin n} (h : 2 * y2 + (x3 - x2) * (l + m) = 0) (hy : y3 = y2 + m * (x3 - x2)) : y3 + y3 = (x3 - x2) * (m - l) := by subst hy; grobner
theorem tan3 {a x1 x2 x3 y2 y3 l m s : Fin n} (h : 2 * y2 + (x3 - x2) * (l + m) = 0) (hy : y3 = y2 + m * (x3 - x2)) (h4 : y3 + y3 = (x3 - x2) * (m - l)) (hx : l * l - x1 - x2 = x3)
    (m2 : m * (y2 + y3) = x2 * x2 + x2 * x3 + x3 * x3 + a) (s2 : s * (y3 + y3) = x3 * x3 + x3 * x3 + x3 * x3 + a) : (x3 - x2) * ((l - m) * (s + l) - (x1 - x3)) = 0 := by
  have e1 : y2 + y3 = - ((x3 - x2) * l) := by clear m2 s2 hx; subst hy; grobner
  rw [e1] at m2
  rw [h4] at s2
  clear h h4 hy e1
  have e2 : x1 = l * l - x2 - x3 := by grobner
  subst e2
  grobner
theorem sec1 {x1 x2 x3 y2 y3 l m s xd yd : Fin n} (h : s * (x3 - xd) = y3 - yd) (hy : y3 = y2 + m * (x3 - x2)) (hd : yd = l * (x1 - xd) - (y2 - l * (x2 - x1))) : (s + l) * (x3 - xd) = 2 * y2 + (l + m) * (x3 - x2) := by
  subst hy
  subst hd
  grobner
theorem sec2 {x1 x2 x3 y2 l m s : Fin n} (hR : 2 * (l - m) * y2 = (x1 - x2) * (x1 + x2 + x3 - l * l) - (x3 - x2) * (x1 + x2 + x3 - m * m)) (h : (s + l) * (x3 - (l * l - x1 - x2)) = 2 * y2 + (l + m) * (x3 - x2)) :
    (x3 - (l * l - x1 - x2)) * ((l - m) * (s + l) - (x1 - x3)) = 0 := by grobner
theorem keyR {a x1 y1 x2 y2 x3 y3 l m : Fin n} (hl : Slope a x1 y1 x2 y2 l) (hm : Slope a x2 y2 x3 y3 m) : 2 * (l - m) * y2 = (x1 - x2) * (x1 + x2 + x3 - l * l) - (x3 - x2) * (x1 + x2 + x3 - m * m) := by
  obtain ⟨l1, l2⟩ := hl
  obtain ⟨m1, m2⟩ := hm
  have hy1 := mv1 l1
  have hy3 := mv2 m1
  subst hy1
  subst hy3
  clear l1 m1
  grobner
theorem sub_ne {x y : Fin n} (h : x ≠ y) : x - y ≠ 0 := fun e => h (by grobner)
theorem eq_of_sub {x y : Fin n} (h : x - y = 0) : x = y := by grobner

/-- The key: the slope from the sum to the third point. -/
theorem key {a x1 y1 x2 y2 x3 y3 l m s : Fin n} (hz : NoZ n) (hlm : l ≠ m) (hl : Slope a x1 y1 x2 y2 l) (hm : Slope a x2 y2 x3 y3 m)
    (hs : Slope a (l * l - x1 - x2) (l * (x1 - (l * l - x1 - x2)) - y1) x3 y3 s) (hn : ¬ (l * l - x1 - x2 = x3 ∧ l * (x1 - (l * l - x1 - x2)) - y1 + y3 = 0)) : (l - m) * (s + l) = x1 - x3 := by
  have hR := keyR hl hm
  obtain ⟨l1, l2⟩ := hl
  obtain ⟨m1, m2⟩ := hm
  obtain ⟨s1, s2⟩ := hs
  have hy1 := mv1 l1
  have hy3 := mv2 m1
  by_cases hP : l * l - x1 - x2 = x3
  · have hyy := tan0 s1 hP
    have h3 : 2 * y2 + (x3 - x2) * (l + m) = 0 := by
      rcases hz _ _ (tan1 hR hP) with h | h
      · exact absurd (eq_of_sub h) hlm
      · exact h
    have h4 := tan2 h3 hy3
    rw [hyy, hP] at s2
    rcases hz _ _ (tan3 h3 hy3 h4 hP m2 s2) with h | h
    · refine absurd ⟨hP, ?_⟩ hn
      rw [hyy, h4, h]
      grobner
    · exact eq_of_sub h
  · rw [hy1] at s1
    rcases hz _ _ (sec2 hR (sec1 s1 hy3 rfl)) with h | h
    · exact absurd (eq_of_sub h).symm hP
    · exact eq_of_sub h

/-- A curve, with a way to turn numbers over. -/
structure Cur (n : Nat) [NeZero n] where
  a : Fin n
  b : Fin n
  inv : Fin n → Fin n

structure Good (E : Cur n) : Prop where
  hz : NoZ n
  nt : ∀ x : Fin n, x * x * x + E.a * x + E.b ≠ 0
  two : (2 : Fin n) ≠ 0
  hinv : ∀ x : Fin n, x ≠ 0 → x * E.inv x = 1

/-- The slope as the document has it. -/
def Cur.lam (E : Cur n) (x1 y1 x2 y2 : Fin n) : Fin n := if x1 = x2 ∧ y1 = y2 then (3 * (x1 * x1) + E.a) * E.inv (y1 + y1) else (y2 - y1) * E.inv (x2 - x1)

abbrev P (n : Nat) := Option (Fin n × Fin n)

def third (x1 y1 x2 l : Fin n) : P n := some (l * l - x1 - x2, l * (x1 - (l * l - x1 - x2)) - y1)

def Cur.add (E : Cur n) : P n → P n → P n
  | none, q => q
  | p, none => p
  | some (x1, y1), some (x2, y2) => if x1 = x2 ∧ y1 + y2 = 0 then none else third x1 y1 x2 (E.lam x1 y1 x2 y2)

def neg : P n → P n
  | none => none
  | some (x, y) => some (x, - y)

def Cur.on (E : Cur n) : P n → Prop
  | none => True
  | some (x, y) => OnC E.a E.b x y

variable {E : Cur n}

theorem lam_slope (G : Good E) {x1 y1 x2 y2 : Fin n} (h1 : OnC E.a E.b x1 y1) (h2 : OnC E.a E.b x2 y2) (hn : ¬ (x1 = x2 ∧ y1 + y2 = 0)) : Slope E.a x1 y1 x2 y2 (E.lam x1 y1 x2 y2) := by
  unfold OnC at h1 h2
  unfold Cur.lam
  by_cases hs : x1 = x2 ∧ y1 = y2
  · rw [if_pos hs]
    obtain ⟨rfl, rfl⟩ := hs
    have hi := G.hinv (y1 + y1) (fun h => hn ⟨rfl, h⟩)
    generalize E.inv (y1 + y1) = i at hi ⊢
    refine ⟨?_, ?_⟩
    · clear hi h1 h2; grobner
    · clear h1 h2; grobner
  · rw [if_neg hs]
    by_cases hx : x1 = x2
    · exfalso
      have e : (y1 - y2) * (y1 + y2) = 0 := by subst hx; grobner
      rcases G.hz _ _ e with h | h
      · exact hs ⟨hx, eq_of_sub h⟩
      · exact hn ⟨hx, h⟩
    · have hx' : x2 - x1 ≠ 0 := fun h => hx (eq_of_sub h).symm
      have hi := G.hinv (x2 - x1) hx'
      generalize E.inv (x2 - x1) = i at hi ⊢
      have e1 : (y2 - y1) * i * (x2 - x1) = y2 - y1 := by clear h1 h2; grobner
      refine ⟨e1, ?_⟩
      generalize (y2 - y1) * i = l at e1 ⊢
      clear hi
      have e : (x2 - x1) * (l * (y1 + y2) - (x1 * x1 + x1 * x2 + x2 * x2 + E.a)) = 0 := by grobner
      rcases G.hz _ _ e with h | h
      · exact absurd h hx'
      · exact eq_of_sub h

theorem add_of (G : Good E) {x1 y1 x2 y2 l : Fin n} (h1 : OnC E.a E.b x1 y1) (h2 : OnC E.a E.b x2 y2) (hn : ¬ (x1 = x2 ∧ y1 + y2 = 0)) (hl : Slope E.a x1 y1 x2 y2 l) : E.add (some (x1, y1)) (some (x2, y2)) = third x1 y1 x2 l := by
  show (if x1 = x2 ∧ y1 + y2 = 0 then none else third x1 y1 x2 (E.lam x1 y1 x2 y2)) = _
  rw [if_neg hn, slope_uniq G.hz hn (lam_slope G h1 h2 hn) hl]

theorem add_opp (E : Cur n) {x1 y1 x2 y2 : Fin n} (hn : x1 = x2 ∧ y1 + y2 = 0) : E.add (some (x1, y1)) (some (x2, y2)) = none := if_pos hn

theorem none_add (E : Cur n) (p : P n) : E.add none p = p := by cases p <;> rfl
theorem add_none (E : Cur n) (p : P n) : E.add p none = p := by cases p <;> rfl

theorem third_on {x1 y1 x2 y2 l : Fin n} (h1 : OnC E.a E.b x1 y1) (hl : Slope E.a x1 y1 x2 y2 l) : E.on (third x1 y1 x2 l) := on_third h1 hl

theorem on_add (G : Good E) {p q : P n} (hp : E.on p) (hq : E.on q) : E.on (E.add p q) := by
  rcases p with _ | ⟨x1, y1⟩
  · rw [none_add]; exact hq
  rcases q with _ | ⟨x2, y2⟩
  · rw [add_none]; exact hp
  by_cases hn : x1 = x2 ∧ y1 + y2 = 0
  · rw [add_opp E hn]; trivial
  · have hl := lam_slope G hp hq hn
    rw [add_of G hp hq hn hl]
    exact third_on hp hl

theorem third_symm {x1 y1 x2 y2 l a : Fin n} (hl : Slope a x1 y1 x2 y2 l) : third x1 y1 x2 l = third x2 y2 x1 l := by
  obtain ⟨h1, _⟩ := hl
  unfold third
  have e1 : l * l - x1 - x2 = l * l - x2 - x1 := by clear h1; grobner
  rw [← e1]
  have e2 : l * (x1 - (l * l - x1 - x2)) - y1 = l * (x2 - (l * l - x1 - x2)) - y2 := by
    have := mv2 h1
    clear h1 e1
    subst this
    grobner
  rw [e2]

theorem opp_symm {x1 y1 x2 y2 : Fin n} (h : x1 = x2 ∧ y1 + y2 = 0) : x2 = x1 ∧ y2 + y1 = 0 := ⟨h.1.symm, by have := h.2; clear h; grobner⟩

theorem add_comm' (G : Good E) {p q : P n} (hp : E.on p) (hq : E.on q) : E.add p q = E.add q p := by
  rcases p with _ | ⟨x1, y1⟩
  · rw [none_add, add_none]
  rcases q with _ | ⟨x2, y2⟩
  · rw [none_add, add_none]
  by_cases hn : x1 = x2 ∧ y1 + y2 = 0
  · rw [add_opp E hn, add_opp E (opp_symm hn)]
  · have hl := lam_slope G hp hq hn
    rw [add_of G hp hq hn hl, add_of G hq hp (fun h => hn (opp_symm h)) (slope_symm hl), third_symm hl]

theorem on_neg {p : P n} (hp : E.on p) : E.on (neg p) := by
  rcases p with _ | ⟨x1, y1⟩
  · trivial
  · change OnC _ _ _ _ at hp
    change OnC _ _ _ _
    unfold OnC at *
    rw [← hp]
    clear hp
    grobner

theorem neg_neg' (p : P n) : neg (neg p) = p := by
  rcases p with _ | ⟨x1, y1⟩
  · rfl
  · show some (x1, - - y1) = some (x1, y1)
    have : - - y1 = y1 := by grobner
    rw [this]

theorem add_neg (E : Cur n) (p : P n) : E.add p (neg p) = none := by
  rcases p with _ | ⟨x1, y1⟩
  · rfl
  · exact add_opp E ⟨rfl, by grobner⟩

/-- No number but 0 is its own negative. -/
theorem dbl_zero (G : Good E) {y : Fin n} (h : y + y = 0) : y = 0 := by
  have e : 2 * y = 0 := by grobner
  rcases G.hz _ _ e with h | h
  · exact absurd h G.two
  · exact h

theorem y_ne (G : Good E) {x y : Fin n} (h : OnC E.a E.b x y) : y ≠ 0 := by
  intro e
  subst e
  refine G.nt x ?_
  unfold OnC at h
  rw [← h]
  clear h
  grobner

theorem neg_add' (G : Good E) {p q : P n} (hp : E.on p) (hq : E.on q) : neg (E.add p q) = E.add (neg p) (neg q) := by
  rcases p with _ | ⟨x1, y1⟩
  · rw [none_add]; exact (none_add E _).symm
  rcases q with _ | ⟨x2, y2⟩
  · rw [add_none]; exact (add_none E _).symm
  by_cases hn : x1 = x2 ∧ y1 + y2 = 0
  · rw [add_opp E hn]
    exact (add_opp E ⟨hn.1, by have := hn.2; clear hn; grobner⟩).symm
  · have hl := lam_slope G hp hq hn
    rw [add_of G hp hq hn hl]
    have hn' : ¬ (x1 = x2 ∧ - y1 + - y2 = 0) := fun h => hn ⟨h.1, by have := h.2; clear h hl hn hp hq; grobner⟩
    generalize E.lam x1 y1 x2 y2 = l at hl ⊢
    have hl' : Slope E.a x1 (- y1) x2 (- y2) (- l) := by
      obtain ⟨g1, g2⟩ := hl
      refine ⟨?_, ?_⟩
      · clear g2 hn hn' hp hq; grobner
      · rw [← g2]; clear g1 g2 hn hn' hp hq; grobner
    have hN : E.add (neg (some (x1, y1))) (neg (some (x2, y2))) = third x1 (- y1) x2 (- l) := add_of G (on_neg hp) (on_neg hq) hn' hl'
    rw [hN]
    clear hl' hl hn hn' hN hp hq
    show some (_, _) = some (_, _)
    have e1 : - l * - l - x1 - x2 = l * l - x1 - x2 := by grobner
    rw [e1]
    have e2 : - (l * (x1 - (l * l - x1 - x2)) - y1) = - l * (x1 - (l * l - x1 - x2)) - - y1 := by grobner
    rw [e2]

/-- What two make, turned over, makes with the second what the first is, turned over. -/
theorem rot (G : Good E) {p q : P n} (hp : E.on p) (hq : E.on q) : E.add q (neg (E.add p q)) = neg p := by
  rcases p with _ | ⟨x1, y1⟩
  · rw [none_add]; exact add_neg E q
  rcases q with _ | ⟨x2, y2⟩
  · rw [none_add, add_none]
  by_cases hn : x1 = x2 ∧ y1 + y2 = 0
  · rw [add_opp E hn]
    show E.add (some (x2, y2)) none = some (x1, - y1)
    rw [add_none]
    obtain ⟨rfl, h⟩ := hn
    have : y2 = - y1 := by clear hp hq; grobner
    rw [this]
  · have hl := lam_slope G hp hq hn
    rw [add_of G hp hq hn hl]
    generalize E.lam x1 y1 x2 y2 = l at hl
    have h3 : E.on (neg (third x1 y1 x2 l)) := on_neg (third_on hp hl)
    change E.add _ (some (l * l - x1 - x2, - (l * (x1 - (l * l - x1 - x2)) - y1))) = _
    change E.on (some (l * l - x1 - x2, - (l * (x1 - (l * l - x1 - x2)) - y1))) at h3
    obtain ⟨g1, g2⟩ := hl
    have hy := mv1 g1
    have e1 : - (l * (x1 - (l * l - x1 - x2)) - y1) = y2 + l * (l * l - x1 - x2 - x2) := by clear g1 g2 h3 hn hp hq; subst hy; grobner
    rw [e1] at h3 ⊢
    have hs : Slope E.a x2 y2 (l * l - x1 - x2) (y2 + l * (l * l - x1 - x2 - x2)) l := by
      refine ⟨?_, ?_⟩
      · clear g1 g2 h3 hn hp hq hy e1; grobner
      · have : E.a = l * (y1 + y2) - (x1 * x1 + x1 * x2 + x2 * x2) := by rw [g2]; clear g1 g2 h3 hn hp hq hy e1; grobner
        rw [this, hy]
        clear this g1 g2 h3 hn hp hq hy e1
        grobner
    have hn2 : ¬ (x2 = l * l - x1 - x2 ∧ y2 + (y2 + l * (l * l - x1 - x2 - x2)) = 0) := by
      rintro ⟨h, h'⟩
      rw [← h] at h'
      refine y_ne G hq (dbl_zero G ?_)
      rw [← h']
      clear h h' hs g1 g2 h3 hn hp hq hy e1
      grobner
    rw [add_of G hq h3 hn2 hs]
    show some (_, _) = some (_, _)
    have e2 : l * l - x2 - (l * l - x1 - x2) = x1 := by clear hn2 hs g1 g2 h3 hn hp hq hy e1; grobner
    have e3 : l * (x2 - x1) - y2 = - y1 := by rw [hy]; clear hn2 hs g1 g2 h3 hn hp hq hy e1 e2; grobner
    rw [e2, e3]

/-- What was added is taken away again. -/
theorem back (G : Good E) {p q : P n} (hp : E.on p) (hq : E.on q) : E.add (neg q) (E.add p q) = p := by
  have h := rot G hp hq
  have h2 := congrArg neg h
  rw [neg_neg', neg_add' G hq (on_neg (on_add G hp hq)), neg_neg'] at h2
  exact h2

theorem fore (G : Good E) {p q : P n} (hp : E.on p) (hq : E.on q) : E.add p (E.add (neg p) q) = q := by
  have h := back G hq (on_neg hp)
  rw [neg_neg', add_comm' G hq (on_neg hp)] at h
  exact h

theorem opp_eq {x1 y1 x2 y2 : Fin n} (h : x1 = x2 ∧ y1 + y2 = 0) : (some (x2, y2) : P n) = neg (some (x1, y1)) := by
  obtain ⟨rfl, h⟩ := h
  have : y2 = - y1 := by grobner
  rw [this]
  rfl

/-- The two ways, where nothing meets its negative. -/
theorem two_ways (G : Good E) {x1 y1 x2 y2 x3 y3 : Fin n} (h1 : OnC E.a E.b x1 y1) (h2 : OnC E.a E.b x2 y2) (h3 : OnC E.a E.b x3 y3)
    (n12 : ¬ (x1 = x2 ∧ y1 + y2 = 0)) (n32 : ¬ (x3 = x2 ∧ y3 + y2 = 0))
    (nl : E.add (some (x1, y1)) (some (x2, y2)) ≠ neg (some (x3, y3))) (nr : E.add (some (x3, y3)) (some (x2, y2)) ≠ neg (some (x1, y1))) :
    E.add (E.add (some (x1, y1)) (some (x2, y2))) (some (x3, y3)) = E.add (E.add (some (x3, y3)) (some (x2, y2))) (some (x1, y1)) := by
  have hl := lam_slope G h1 h2 n12
  have hm := lam_slope G h3 h2 n32
  have el := add_of G h1 h2 n12 hl
  have em := add_of G h3 h2 n32 hm
  generalize E.lam x1 y1 x2 y2 = l at hl el
  generalize E.lam x3 y3 x2 y2 = m at hm em
  rw [el] at nl ⊢
  rw [em] at nr ⊢
  have onD : E.on (third x1 y1 x2 l) := third_on h1 hl
  have onF : E.on (third x3 y3 x2 m) := third_on h3 hm
  unfold third at nl nr onD onF ⊢
  have nD : ¬ (l * l - x1 - x2 = x3 ∧ l * (x1 - (l * l - x1 - x2)) - y1 + y3 = 0) := by
    intro h
    refine nl ?_
    rw [opp_eq h]
    exact (neg_neg' _).symm
  have nF : ¬ (m * m - x3 - x2 = x1 ∧ m * (x3 - (m * m - x3 - x2)) - y3 + y1 = 0) := by
    intro h
    refine nr ?_
    rw [opp_eq h]
    exact (neg_neg' _).symm
  have hs := lam_slope G onD h3 nD
  have ht := lam_slope G onF h1 nF
  rw [add_of G onD h3 nD hs, add_of G onF h1 nF ht, third_symm hs, third_symm ht]
  generalize E.lam (l * l - x1 - x2) _ x3 y3 = s at hs
  generalize E.lam (m * m - x3 - x2) _ x1 y1 = t at ht
  by_cases hlm : l = m
  · subst hlm
    have hR := keyR hl (slope_symm hm)
    have e : (x1 - x3) * (x1 + x2 + x3 - l * l) = 0 := by clear hs ht nD nF nl nr onD onF n12 n32 h1 h2 h3 hl hm el em; grobner
    have hy1 := mv1 hl.1
    have hy3 := mv1 hm.1
    rcases G.hz _ _ e with h | h
    · have hx : x1 = x3 := eq_of_sub h
      have hy : y1 = y3 := by rw [hy1, hy3, hx]
      subst hx
      subst hy
      have := slope_uniq G.hz nD hs ht
      rw [this]
    · refine absurd ⟨?_, ?_⟩ nD
      · clear hs ht nD nF nl nr onD onF n12 n32 h1 h2 h3 hl hm el em hR e hy1 hy3; grobner
      · have e2 : l * l - x1 - x2 = x3 := by clear hs ht nD nF nl nr onD onF n12 n32 h1 h2 h3 hl hm el em hR e hy1 hy3; grobner
        rw [e2, hy1, hy3]
        clear hs ht nD nF nl nr onD onF n12 n32 h1 h2 h3 hl hm el em hR e hy1 hy3 h e2
        grobner
  · have k1 := key G.hz hlm hl (slope_symm hm) hs nD
    have k2 := key G.hz (fun h => hlm h.symm) hm (slope_symm hl) ht nF
    have hk : (l - m) * (s + l - (t + m)) = 0 := by clear hs ht nD nF nl nr onD onF n12 n32 h1 h2 h3 hl hm el em; grobner
    have hk2 : s = t + m - l := by
      rcases G.hz _ _ hk with h | h
      · exact absurd (eq_of_sub h) hlm
      · clear hs ht nD nF nl nr onD onF n12 n32 h1 h2 h3 hl hm el em hk k1 k2; grobner
    have hy1 := mv1 hl.1
    have hy3 := mv1 hm.1
    have hx : x3 = x1 + (m - l) * (t + m) := by rw [k2]; clear hs ht nD nF nl nr onD onF n12 n32 h1 h2 h3 hl hm el em hk k1 k2; grobner
    clear hs ht nD nF nl nr onD onF n12 n32 h1 h2 h3 hl hm el em hk k1 k2
    unfold third
    have ex : s * s - x3 - (l * l - x1 - x2) = t * t - x1 - (m * m - x3 - x2) := by
      clear hy1 hy3
      subst hk2
      subst hx
      grobner
    rw [ex]
    have ey : s * (x3 - (t * t - x1 - (m * m - x3 - x2))) - y3 = t * (x1 - (t * t - x1 - (m * m - x3 - x2))) - y1 := by
      clear ex
      subst hy1
      subst hy3
      subst hk2
      subst hx
      grobner
    rw [ey]

/-- However sums are put together, they are the same. -/
theorem assoc (G : Good E) {p q r : P n} (hp : E.on p) (hq : E.on q) (hr : E.on r) : E.add (E.add p q) r = E.add p (E.add q r) := by
  have hpq := on_add G hp hq
  have hqr := on_add G hq hr
  rcases p with _ | ⟨x1, y1⟩
  · rw [none_add, none_add]
  rcases q with _ | ⟨x2, y2⟩
  · rw [none_add, add_none]
  rcases r with _ | ⟨x3, y3⟩
  · rw [add_none, add_none]
  by_cases n12 : x1 = x2 ∧ y1 + y2 = 0
  · rw [add_opp E n12, none_add, opp_eq n12]
    exact (fore G hp hr).symm
  by_cases n32 : x3 = x2 ∧ y3 + y2 = 0
  · rw [add_opp E (opp_symm n32), add_none, opp_eq n32, add_comm' G (on_add G hp (on_neg hr)) hr, add_comm' G hp (on_neg hr)]
    exact fore G hr hp
  by_cases nl : E.add (some (x1, y1)) (some (x2, y2)) = neg (some (x3, y3))
  · have h := rot G hp hq
    rw [nl, neg_neg'] at h
    rw [nl, h, add_neg, add_comm' G (on_neg hr) hr, add_neg]
  by_cases nr : E.add (some (x3, y3)) (some (x2, y2)) = neg (some (x1, y1))
  · have h := rot G hr hq
    rw [nr, neg_neg'] at h
    rw [add_comm' G hq hr, nr, add_neg, add_comm' G hp hq, h, add_comm' G (on_neg hr) hr, add_neg]
  rw [two_ways G hp hq hr n12 n32 nl nr, add_comm' G (on_add G hr hq) hp, add_comm' G hr hq]
end law


/-- No more things than there is room for. -/
theorem php : ∀ (b a : Nat) (f : Nat → Nat), (∀ i, i < a → f i < b) → (∀ i j, i < a → j < a → f i = f j → i = j) → a ≤ b := by
  intro b
  induction b with
  | zero =>
    intro a f h _
    rcases Nat.eq_zero_or_pos a with h0 | h0
    · omega
    · have := h 0 h0; omega
  | succ b ih =>
    intro a f h inj
    rcases a with _ | a
    · omega
    · have hv := h a (by omega)
      have := ih a (fun i => if f i = b then f a else f i) (by
        intro i hi
        have h1 := h i (by omega)
        by_cases e : f i = b
        · rw [if_pos e]
          have : f a ≠ b := fun e2 => by have := inj i a (by omega) (by omega) (by rw [e, e2]); omega
          omega
        · rw [if_neg e]; omega) (by
        intro i j hi hj e
        have ha : ∀ k, k < a → f k ≠ f a := fun k hk e2 => by have := inj k a (by omega) (by omega) e2; omega
        have e : (if f i = b then f a else f i) = (if f j = b then f a else f j) := e
        by_cases e1 : f i = b <;> by_cases e2 : f j = b
        · exact inj i j (by omega) (by omega) (by rw [e1, e2])
        · rw [if_pos e1, if_neg e2] at e; exact absurd e.symm (ha j hj)
        · rw [if_neg e1, if_pos e2] at e; exact absurd e (ha i hi)
        · rw [if_neg e1, if_neg e2] at e; exact inj i j (by omega) (by omega) e)
      omega

/-- Sums in which the order is nothing. -/
structure Ab (α : Type) where
  op : α → α → α
  o : α
  ng : α → α
  comm : ∀ p q, op p q = op q p
  assoc : ∀ p q r, op (op p q) r = op p (op q r)
  ido : ∀ p, op o p = p
  ngo : ∀ p, op p (ng p) = o

namespace Ab
variable {α : Type} (A : Ab α)

theorem oid (p : α) : A.op p A.o = p := by rw [A.comm, A.ido]

theorem back (p q : α) : A.op (A.op p q) (A.ng q) = p := by rw [A.assoc, A.ngo, A.oid]

theorem cancel {p q r : α} (h : A.op p r = A.op q r) : p = q := by
  rw [← A.back p r, h, A.back]

def mul : Nat → α → α
  | 0, _ => A.o
  | k + 1, p => A.op (mul k p) p

theorem mul_succ (k : Nat) (p : α) : A.mul (k + 1) p = A.op (A.mul k p) p := rfl

theorem mul_add (i k : Nat) (p : α) : A.mul (i + k) p = A.op (A.mul i p) (A.mul k p) := by
  induction k with
  | zero => show A.mul i p = A.op (A.mul i p) A.o; rw [A.oid]
  | succ k ih => show A.op (A.mul (i + k) p) p = A.op (A.mul i p) (A.op (A.mul k p) p); rw [ih, A.assoc]

theorem mul_o (k : Nat) : A.mul k A.o = A.o := by
  induction k with
  | zero => rfl
  | succ k ih => show A.op (A.mul k A.o) A.o = A.o; rw [A.oid, ih]

theorem mul_op (k : Nat) (p q : α) : A.mul k (A.op p q) = A.op (A.mul k p) (A.mul k q) := by
  induction k with
  | zero => exact (A.oid _).symm
  | succ k ih =>
    show A.op (A.mul k (A.op p q)) (A.op p q) = A.op (A.op (A.mul k p) p) (A.op (A.mul k q) q)
    rw [ih, A.assoc, A.assoc, ← A.assoc (A.mul k q), A.comm (A.mul k q) p, A.assoc p]

theorem mul_mul (i k : Nat) (p : α) : A.mul (i * k) p = A.mul i (A.mul k p) := by
  induction i with
  | zero => rw [Nat.zero_mul]; rfl
  | succ i ih => rw [Nat.succ_mul, mul_add, ih]; rfl

theorem mul_one (p : α) : A.mul 1 p = p := A.ido p

/-- What makes o by two numbers makes it by what measures both. -/
theorem mul_gcd (p : α) (i k : Nat) : A.mul i p = A.o → A.mul k p = A.o → A.mul (Nat.gcd i k) p = A.o := by
  refine Nat.gcd.induction i k ?_ ?_
  · intro k _ h
    rwa [Nat.gcd_zero_left]
  · intro i k hi ih h1 h2
    rw [Nat.gcd_rec]
    refine ih ?_ h1
    have e := Nat.div_add_mod k i
    rw [← e, mul_add, Nat.mul_comm, mul_mul, h1, mul_o, A.ido] at h2
    exact h2

variable {A}

theorem inj_of {g : α} {N : Nat} (hN : ∀ d, d ∣ N → d = 1 ∨ d = N) (hg : A.mul N g = A.o) (hne : g ≠ A.o) {i j : Nat} (hj : j < N) (hij : i ≤ j) (h : A.mul i g = A.mul j g) : i = j := by
  have e : A.mul (j - i) g = A.o := by
    refine A.cancel (r := A.mul i g) ?_
    rw [← mul_add, A.ido, Nat.sub_add_cancel hij, h]
  have e2 := A.mul_gcd g N (j - i) hg e
  rcases hN _ (Nat.gcd_dvd_left N (j - i)) with h1 | h1
  · rw [h1, mul_one] at e2; exact absurd e2 hne
  · have := Nat.gcd_dvd_right N (j - i)
    rw [h1] at this
    rcases Nat.eq_zero_or_pos (j - i) with h0 | h0
    · omega
    · have := Nat.le_of_dvd h0 this; omega

/-- Where fewer than three times as many things are as one of them, by a prime number of times, makes, and none but o is its own like, that number of times makes o of all. -/
theorem all_of {g : α} {N M : Nat} (hN : ∀ d, d ∣ N → d = 1 ∨ d = N) (hodd : N % 2 = 1) (hg : A.mul N g = A.o) (hne : g ≠ A.o) (code : α → Nat) (hc : ∀ p, code p < M) (hi : ∀ p q, code p = code q → p = q) (hM : M < 3 * N)
    (no2 : ∀ p, A.op p p = A.o → p = A.o) (x : α) : A.mul N x = A.o := by
  have inj : ∀ {i j : Nat}, i < N → j < N → A.mul i g = A.mul j g → i = j := by
    intro i j h1 h2 h
    rcases Nat.le_total i j with h3 | h3
    · exact inj_of hN hg hne h2 h3 h
    · exact (inj_of hN hg hne h1 h3 h.symm).symm
  have hmul : ∀ i, A.mul N (A.mul i g) = A.o := by
    intro i
    rw [← mul_mul, Nat.mul_comm, mul_mul, hg, mul_o]
  -- what is a multiple where its double is
  have half : ∀ i y, A.op y y = A.mul i g → ∃ k, y = A.mul k g := by
    intro i y h
    have h2 : ∃ k, A.op y y = A.mul (k + k) g := by
      by_cases he : i % 2 = 0
      · exact ⟨i / 2, by rw [h]; congr 1; omega⟩
      · refine ⟨(i + N) / 2, ?_⟩
        have : (i + N) / 2 + (i + N) / 2 = i + N := by omega
        rw [this, mul_add, hg, A.oid, h]
    obtain ⟨k, h2⟩ := h2
    refine ⟨k, ?_⟩
    have e := no2 (A.op y (A.ng (A.mul k g))) (by
      rw [A.assoc, ← A.assoc (A.ng (A.mul k g)), A.comm (A.ng (A.mul k g)) y, A.assoc y, ← A.assoc, h2, mul_add]
      rw [A.assoc, ← A.assoc (A.mul k g) (A.ng (A.mul k g)), A.ngo, A.ido, A.ngo])
    refine A.cancel (r := A.ng (A.mul k g)) ?_
    rw [e, A.ngo]
  -- a difference of multiples is one
  have diff : ∀ {y : α} {i j : Nat}, j < N → A.op y (A.mul j g) = A.mul i g → ∃ k, y = A.mul k g := by
    intro y i j hj h
    refine ⟨i + (N - j), ?_⟩
    rw [mul_add, ← h, A.assoc, ← mul_add, show j + (N - j) = N by omega, hg, A.oid]
  have mem : ∃ k, x = A.mul k g := by
    refine Classical.byContradiction fun hno => ?_
    have hno2 : ¬ ∃ k, A.op x x = A.mul k g := fun ⟨k, hk⟩ => hno (half k x hk)
    have hNpos : 0 < N := by omega
    have sep : ∀ {c c' i i' : Nat}, c' < 3 → i < N → i' < N → c ≤ c' → A.op (A.mul c x) (A.mul i g) = A.op (A.mul c' x) (A.mul i' g) → c = c' ∧ i = i' := by
      intro c c' i i' hc' hii hii' hcc h
      have e : A.op (A.mul (c' - c) x) (A.mul i' g) = A.mul i g := by
        refine A.cancel (r := A.mul c x) ?_
        rw [A.assoc, A.comm (A.mul i' g), ← A.assoc, ← mul_add, Nat.sub_add_cancel hcc, ← h, A.comm]
      obtain ⟨k, hk⟩ := diff hii' e
      have hcd : c' - c = 0 ∨ c' - c = 1 ∨ c' - c = 2 := by omega
      rcases hcd with h0 | h0 | h0
      · have hcc : c = c' := by omega
        subst hcc
        rw [h0] at e
        have e : A.op A.o (A.mul i' g) = A.mul i g := e
        rw [A.ido] at e
        exact ⟨rfl, (inj hii' hii e).symm⟩
      · rw [h0, mul_one] at hk; exact absurd ⟨k, hk⟩ hno
      · rw [h0] at hk
        have hk : A.op (A.op A.o x) x = A.mul k g := hk
        rw [A.ido] at hk
        exact absurd ⟨k, hk⟩ hno2
    have := php M (3 * N) (fun t => code (A.op (A.mul (t / N) x) (A.mul (t % N) g))) (fun i _ => hc _) (by
      intro i j h1 h2 h
      have h := hi _ _ h
      have a1 : i / N < 3 := by rw [Nat.div_lt_iff_lt_mul hNpos]; omega
      have a2 : j / N < 3 := by rw [Nat.div_lt_iff_lt_mul hNpos]; omega
      have b1 := Nat.mod_lt i hNpos
      have b2 := Nat.mod_lt j hNpos
      have r : i / N = j / N ∧ i % N = j % N := by
        rcases Nat.le_total (i / N) (j / N) with h3 | h3
        · exact sep a2 b1 b2 h3 h
        · have := sep a1 b2 b1 h3 h.symm
          exact ⟨this.1.symm, this.2.symm⟩
      rw [← Nat.div_add_mod i N, ← Nat.div_add_mod j N, r.1, r.2])
    omega
  obtain ⟨k, hk⟩ := mem
  rw [hk]
  exact hmul k
end Ab

/-- A number that only 1 and itself measure. -/
def Pr (q : Nat) : Prop := q ≠ 1 ∧ ∀ d, d ∣ q → d = 1 ∨ d = q

def prodl : List Nat → Nat
  | [] => 1
  | q :: l => q * prodl l

theorem pr_in : ∀ (l : List Nat) (c : Nat), (∀ q, q ∈ l → Pr q) → c ∣ prodl l → c ≠ 1 → ∃ q, q ∈ l ∧ q ∣ c
  | [], c, _, h, h1 => absurd (Nat.eq_one_of_dvd_one h) h1
  | q :: l, c, hp, h, h1 => by
    rcases (hp q (List.mem_cons_self)).2 _ (Nat.gcd_dvd_right c q) with h2 | h2
    · have h3 : c ∣ prodl l := Nat.Coprime.dvd_of_dvd_mul_left h2 h
      obtain ⟨r, hr, hr2⟩ := pr_in l c (fun r hr => hp r (List.mem_cons_of_mem _ hr)) h3 h1
      exact ⟨r, List.mem_cons_of_mem _ hr, hr2⟩
    · exact ⟨q, List.mem_cons_self, by rw [← h2]; exact Nat.gcd_dvd_left c q⟩

/-- What measures a number, and isn't it, measures a part of it. -/
theorem part_of {l : List Nat} {N d : Nat} (hl : prodl l = N) (hp : ∀ q, q ∈ l → Pr q) (h0 : 0 < N) (hd : d ∣ N) (hne : d ≠ N) : ∃ q, q ∈ l ∧ d ∣ N / q := by
  obtain ⟨c, hc⟩ := hd
  have hc1 : c ≠ 1 := fun h => hne (by rw [hc, h, Nat.mul_one])
  obtain ⟨q, hq, k, hk⟩ := pr_in l c hp ⟨d, by rw [hl, hc, Nat.mul_comm]⟩ hc1
  refine ⟨q, hq, k, ?_⟩
  have hq0 : 0 < q := by
    rcases Nat.eq_zero_or_pos q with h | h
    · subst h; rw [Nat.zero_mul] at hk; subst hk; rw [Nat.mul_zero] at hc; omega
    · exact h
  rw [hc, hk, Nat.mul_left_comm, Nat.mul_div_cancel_left _ hq0]

section power
variable {n : Nat} [NeZero n]

theorem val_one (hn : 1 < n) : (1 : Fin n).val = 1 := by
  show 1 % n = 1
  exact Nat.mod_eq_of_lt hn

def pf (g : Fin n) : Nat → Fin n
  | 0 => 1
  | k + 1 => pf g k * g

theorem mul_one' (x : Fin n) : x * 1 = x := by grobner
theorem one_mul' (x : Fin n) : 1 * x = x := by grobner
theorem mul_assoc' (x y z : Fin n) : x * y * z = x * (y * z) := by grobner
theorem mul_comm' (x y : Fin n) : x * y = y * x := by grobner

theorem pf_add (g : Fin n) (i k : Nat) : pf g (i + k) = pf g i * pf g k := by
  induction k with
  | zero => exact (mul_one' _).symm
  | succ k ih => show pf g (i + k) * g = pf g i * (pf g k * g); rw [ih, mul_assoc']

theorem pf_one (k : Nat) : pf (1 : Fin n) k = 1 := by
  induction k with
  | zero => rfl
  | succ k ih => show pf 1 k * 1 = 1; rw [ih, mul_one']

theorem pf_mul (g : Fin n) (i k : Nat) : pf g (i * k) = pf (pf g i) k := by
  induction k with
  | zero => rfl
  | succ k ih => rw [Nat.mul_succ, pf_add, ih]; rfl

theorem pf_gcd (g : Fin n) (i k : Nat) : pf g i = 1 → pf g k = 1 → pf g (Nat.gcd i k) = 1 := by
  refine Nat.gcd.induction i k ?_ ?_
  · intro k _ h
    rwa [Nat.gcd_zero_left]
  · intro i k hi ih h1 h2
    rw [Nat.gcd_rec]
    refine ih ?_ h1
    have e := Nat.div_add_mod k i
    rw [← e, pf_add, pf_mul, h1, pf_one, one_mul'] at h2
    exact h2

theorem pf_dvd (g : Fin n) {i k : Nat} (h : i ∣ k) (h1 : pf g i = 1) : pf g k = 1 := by
  obtain ⟨c, rfl⟩ := h
  rw [pf_mul, h1, pf_one]

/-- A number whose powers are all others. -/
structure Root (g : Fin n) : Prop where
  one : pf g (n - 1) = 1
  all : ∀ x : Fin n, x ≠ 0 → ∃ i, x = pf g i

theorem root_of {g : Fin n} {l : List Nat} (hn : 1 < n) (hl : prodl l = n - 1) (hp : ∀ q, q ∈ l → Pr q) (h1 : pf g (n - 1) = 1) (hq : ∀ q, q ∈ l → pf g ((n - 1) / q) ≠ 1) : Root g := by
  refine ⟨h1, ?_⟩
  have z1 : (0 : Fin n) ≠ 1 := by
    intro h
    have h : (0 : Fin n).val = (1 : Fin n).val := congrArg Fin.val h
    rw [Fin.val_zero, val_one hn] at h
    omega
  have big : ∀ e, 0 < e → e < n - 1 → pf g e ≠ 1 := by
    intro e h0 h2 h3
    have h4 := pf_gcd g (n - 1) e h1 h3
    have hle := Nat.le_of_dvd h0 (Nat.gcd_dvd_right (n - 1) e)
    obtain ⟨q, hql, hqd⟩ := part_of hl hp (by omega) (Nat.gcd_dvd_left (n - 1) e) (by omega)
    exact hq q hql (pf_dvd g hqd h4)
  have nz : ∀ i, i < n → pf g i ≠ 0 := by
    intro i hi h
    have e : pf g (i + (n - 1 - i)) = 1 ∨ i = n - 1 + 1 := by
      left
      rw [show i + (n - 1 - i) = n - 1 by omega, h1]
    rcases e with e | e
    · rw [pf_add, h] at e
      exact z1 (by rw [← e]; grobner)
    · omega
  have inj : ∀ i j, i < j → j < n → 0 < i → pf g i ≠ pf g j := by
    intro i j h2 h3 h0 h
    refine big (j - i) (by omega) (by omega) ?_
    have e1 : pf g i * pf g (n - 1 - i) = 1 := by rw [← pf_add, show i + (n - 1 - i) = n - 1 by omega, h1]
    have e2 : pf g j = pf g (j - i) * pf g i := by rw [← pf_add, show j - i + i = j by omega]
    rw [e2] at h
    have e3 : pf g i * pf g (n - 1 - i) = pf g (j - i) * (pf g i * pf g (n - 1 - i)) := by rw [← mul_assoc', ← h]
    rw [e1, mul_one'] at e3
    exact e3.symm
  intro x hx
  refine Classical.byContradiction fun hno => ?_
  have hx0 : x.val ≠ 0 := fun h => hx (Fin.ext (by rw [h, Fin.val_zero]))
  have hno2 : ∀ i, (pf g i).val ≠ x.val := fun i h => hno ⟨i, Fin.ext h.symm⟩
  have nz2 : ∀ i, i < n → (pf g i).val ≠ 0 := fun i hi h => nz i hi (Fin.ext (by rw [h, Fin.val_zero]))
  have := php (n - 2) (n - 1) (fun i => if (pf g (i + 1)).val = n - 1 then x.val - 1 else (pf g (i + 1)).val - 1) (by
    intro i hi
    have a1 := nz2 (i + 1) (by omega)
    have a2 := (pf g (i + 1)).isLt
    have a3 := hno2 (i + 1)
    have a4 := x.isLt
    show (if (pf g (i + 1)).val = n - 1 then x.val - 1 else (pf g (i + 1)).val - 1) < n - 2
    split <;> omega) (by
    intro i j hi hj h
    have h : (if (pf g (i + 1)).val = n - 1 then x.val - 1 else (pf g (i + 1)).val - 1) = (if (pf g (j + 1)).val = n - 1 then x.val - 1 else (pf g (j + 1)).val - 1) := h
    have a1 := nz2 (i + 1) (by omega)
    have b1 := nz2 (j + 1) (by omega)
    have a3 := hno2 (i + 1)
    have b3 := hno2 (j + 1)
    have e : (pf g (i + 1)).val = (pf g (j + 1)).val := by
      split at h <;> split at h <;> omega
    have e : pf g (i + 1) = pf g (j + 1) := Fin.ext e
    rcases Nat.lt_trichotomy i j with h3 | h3 | h3
    · exact absurd e (inj _ _ (by omega) (by omega) (by omega))
    · exact h3
    · exact absurd e.symm (inj _ _ (by omega) (by omega) (by omega)))
  omega

theorem root_inv {g : Fin n} (h : Root g) {x : Fin n} (hx : x ≠ 0) : pf x (n - 1) = 1 := by
  obtain ⟨i, rfl⟩ := h.all x hx
  rw [← pf_mul, Nat.mul_comm, pf_mul, h.one, pf_one]

theorem root_inv2 {g : Fin n} (h : Root g) (hn : 1 < n) {x : Fin n} (hx : x ≠ 0) : x * pf x (n - 2) = 1 := by
  have := root_inv h hx
  rw [show n - 1 = n - 2 + 1 by omega] at this
  rw [mul_comm']
  exact this

theorem root_noz {g : Fin n} (h : Root g) (hn : 1 < n) (x y : Fin n) (e : x * y = 0) : x = 0 ∨ y = 0 := by
  by_cases hx : x = 0
  · exact Or.inl hx
  · have hi := root_inv2 h hn hx
    generalize pf x (n - 2) = i at hi
    right
    have : y = x * i * y := by rw [hi, one_mul']
    rw [this, mul_comm' x i, mul_assoc', e]
    clear this hi e hx h
    grobner

theorem root_pr {g : Fin n} (h : Root g) (hn : 1 < n) : Pr n := by
  refine ⟨by omega, fun d hd => ?_⟩
  have hle := Nat.le_of_dvd (by omega) hd
  rcases Nat.lt_or_ge d n with hlt | hge
  · left
    have hd0 : 0 < d := Nat.pos_of_dvd_of_pos hd (by omega)
    have hx : (⟨d, hlt⟩ : Fin n) ≠ 0 := fun e => by have := congrArg Fin.val e; rw [Fin.val_zero] at this; have this : d = 0 := this; omega
    have hi := root_inv2 h hn hx
    generalize pf (⟨d, hlt⟩ : Fin n) (n - 2) = i at hi
    have hi := congrArg Fin.val hi
    rw [Fin.val_mul, val_one hn] at hi
    have hi : d * i.val % n = 1 := hi
    have h2 : d ∣ d * i.val % n := (Nat.dvd_mod_iff hd).mpr ⟨i.val, rfl⟩
    rw [hi] at h2
    exact Nat.eq_one_of_dvd_one h2
  · right; omega
end power

/-- A power, by the bits of its number. -/
def pw (m : Nat) : Nat → Nat → Nat → Nat
  | 0, _, _ => 1 % m
  | f + 1, b, e => if e = 0 then 1 % m else if e % 2 = 1 then b * pw m f (b * b % m) (e / 2) % m else pw m f (b * b % m) (e / 2)

section number
variable {n : Nat} [NeZero n]

/-- A number as one of the n. -/
def F (x : Nat) : Fin n := ⟨x % n, Nat.mod_lt _ (Nat.pos_of_ne_zero (NeZero.ne n))⟩

theorem F_mod (x : Nat) : (F (x % n) : Fin n) = F x := Fin.ext (Nat.mod_mod _ _)
theorem F_mul (x y : Nat) : (F (x * y) : Fin n) = F x * F y := Fin.ext (by rw [Fin.val_mul]; exact Nat.mul_mod _ _ _)
theorem F_add (x y : Nat) : (F (x + y) : Fin n) = F x + F y := Fin.ext (by rw [Fin.val_add]; exact Nat.add_mod _ _ _)
theorem F_val (x : Fin n) : F x.val = x := Fin.ext (Nat.mod_eq_of_lt x.isLt)

theorem pf_sq (x : Fin n) (k : Nat) : pf (x * x) k = pf x (2 * k) := by
  rw [pf_mul]
  congr 1
  show x * x = 1 * x * x
  rw [one_mul']

theorem pw_pf : ∀ (f b e : Nat), e < 2 ^ f → pw n f b e = (pf (F b : Fin n) e).val
  | 0, b, e, h => by
    have : e = 0 := by omega
    subst this
    rfl
  | f + 1, b, e, h => by
    unfold pw
    have hd : e / 2 < 2 ^ f := by rw [Nat.pow_succ] at h; omega
    have ih := pw_pf f (b * b % n) (e / 2) hd
    rw [F_mod, F_mul, pf_sq] at ih
    by_cases h0 : e = 0
    · rw [if_pos h0, h0]; rfl
    · rw [if_neg h0]
      by_cases h1 : e % 2 = 1
      · rw [if_pos h1, ih]
        have e1 : e = 2 * (e / 2) + 1 := by omega
        generalize e / 2 = k at e1
        subst e1
        show _ = (pf (F b) (2 * k) * F b).val
        rw [Fin.val_mul, Nat.mul_comm]
        show (pf (F b : Fin n) (2 * k)).val * b % n = (pf (F b : Fin n) (2 * k)).val * (b % n) % n
        rw [Nat.mul_mod _ (b % n), Nat.mod_mod, ← Nat.mul_mod]
      · rw [if_neg h1, ih]
        congr 2
        omega
end number

/-- Whether a row (number, root, the parts of the number less one) holds, those before it known. -/
def rowOk (ps : List Nat) (r : Nat × Nat × List Nat) : Bool :=
  decide (1 < r.1) && decide (r.1 < 2 ^ 256) && decide (prodl r.2.2 = r.1 - 1) && r.2.2.all (fun q => ps.contains q) && decide (pw r.1 256 r.2.1 (r.1 - 1) = 1) && r.2.2.all (fun q => decide (pw r.1 256 r.2.1 ((r.1 - 1) / q) ≠ 1))

theorem row_root {ps : List Nat} {n g : Nat} {l : List Nat} [NeZero n] (hp : ∀ q, q ∈ ps → Pr q) (h : rowOk ps (n, g, l) = true) : 1 < n ∧ Root (F g : Fin n) := by
  unfold rowOk at h
  simp only [Bool.and_eq_true, decide_eq_true_eq, List.all_eq_true] at h
  obtain ⟨⟨⟨⟨⟨h1, h2⟩, h3⟩, h4⟩, h5⟩, h6⟩ := h
  have h5 : pw n 256 g (n - 1) = 1 := h5
  have h1 : 1 < n := h1
  have h2 : n < 2 ^ 256 := h2
  refine ⟨h1, root_of (l := l) h1 h3 (fun q hq => hp q (by have := h4 q hq; exact List.contains_iff_mem.mp this)) ?_ ?_⟩
  · apply Fin.ext
    exact (pw_pf (n := n) 256 g (n - 1) (Nat.lt_of_le_of_lt (Nat.sub_le _ _) h2)).symm.trans (h5.trans (val_one h1).symm)
  · intro q hq e
    have h6 : pw n 256 g ((n - 1) / q) ≠ 1 := h6 q hq
    refine h6 ?_
    have e2 := pw_pf (n := n) 256 g ((n - 1) / q) (Nat.lt_of_le_of_lt (Nat.div_le_self _ _) (Nat.lt_of_le_of_lt (Nat.sub_le _ _) h2))
    rw [e2]
    exact (congrArg Fin.val e).trans (val_one h1)

def tabOk : List Nat → List (Nat × Nat × List Nat) → Bool
  | _, [] => true
  | ps, r :: t => rowOk ps r && tabOk (r.1 :: ps) t

theorem row_pr {ps : List Nat} {r : Nat × Nat × List Nat} (hp : ∀ q, q ∈ ps → Pr q) (h : rowOk ps r = true) : Pr r.1 := by
  obtain ⟨n, g, l⟩ := r
  show Pr n
  have h1 : 1 < n := by
    unfold rowOk at h
    simp only [Bool.and_eq_true, decide_eq_true_eq] at h
    exact h.1.1.1.1.1
  haveI : NeZero n := ⟨by omega⟩
  exact root_pr (row_root hp h).2 h1

theorem tab_pr : ∀ (t : List (Nat × Nat × List Nat)) (ps : List Nat), (∀ q, q ∈ ps → Pr q) → tabOk ps t = true → ∀ r, r ∈ t → Pr r.1 ∧ ∃ ps', (∀ q, q ∈ ps' → Pr q) ∧ rowOk ps' r = true
  | [], _, _, _, r, hr => absurd hr List.not_mem_nil
  | r0 :: t, ps, hp, h, r, hr => by
    have h : (rowOk ps r0 && tabOk (r0.1 :: ps) t) = true := h
    rw [Bool.and_eq_true] at h
    have h0 := row_pr hp h.1
    rcases List.mem_cons.mp hr with e | e
    · rw [e]; exact ⟨h0, ps, hp, h.1⟩
    · refine tab_pr t (r0.1 :: ps) ?_ h.2 r e
      intro q hq
      rcases List.mem_cons.mp hq with e | e
      · rw [e]; exact h0
      · exact hp q e

theorem pr_two : Pr 2 := by
  refine ⟨by decide, fun d hd => ?_⟩
  have := Nat.le_of_dvd (by decide) hd
  have h0 : d ≠ 0 := by rintro rfl; omega
  omega

/-- Rows for the field's modulus and the number of points. -/
def tab : List (Nat × Nat × List Nat) := [
  (257, 3, [2, 2, 2, 2, 2, 2, 2, 2]),
  (3, 2, [2]),
  (5, 2, [2, 2]),
  (641, 3, [2, 2, 2, 2, 2, 2, 2, 5]),
  (65537, 3, [2, 2, 2, 2, 2, 2, 2, 2, 2, 2, 2, 2, 2, 2, 2, 2]),
  (11, 2, [2, 5]),
  (727, 5, [2, 3, 11, 11]),
  (17449, 14, [2, 2, 2, 3, 727]),
  (6700417, 5, [2, 2, 2, 2, 2, 2, 2, 3, 17449]),
  (241, 7, [2, 2, 2, 2, 3, 5]),
  (2411, 6, [2, 5, 241]),
  (17, 3, [2, 2, 2, 2]),
  (7, 3, [2, 3]),
  (197, 2, [2, 2, 7, 7]),
  (43, 3, [2, 3, 7]),
  (173, 2, [2, 2, 43]),
  (13, 2, [2, 2, 3]),
  (53, 2, [2, 2, 13]),
  (919, 7, [2, 3, 3, 3, 17]),
  (3677, 2, [2, 2, 919]),
  (66417393611, 6, [2, 5, 53, 173, 197, 3677]),
  (11290956913871, 13, [2, 5, 17, 66417393611]),
  (181, 2, [2, 2, 3, 3, 5]),
  (1087, 3, [2, 3, 181]),
  (4349, 2, [2, 2, 1087]),
  (78283, 3, [2, 3, 3, 4349]),
  (23, 5, [2, 11]),
  (757, 2, [2, 2, 3, 3, 3, 7]),
  (18169, 11, [2, 2, 2, 3, 757]),
  (313, 10, [2, 2, 2, 3, 13]),
  (704251, 2, [2, 3, 3, 5, 5, 5, 313]),
  (46076956964474543, 5, [2, 23, 18169, 78283, 704251]),
  (107, 2, [2, 53]),
  (157, 5, [2, 2, 3, 13]),
  (3769, 7, [2, 2, 2, 3, 157]),
  (204061199, 11, [2, 11, 23, 107, 3769]),
  (34282281433, 17, [2, 2, 2, 3, 7, 204061199]),
  (774023187263532362759620327192479577272145303, 3, [2, 3, 3, 2411, 34282281433, 11290956913871, 46076956964474543]),
  (835945042244614951780389953367877943453916927241, 11, [2, 2, 2, 3, 3, 3, 5, 774023187263532362759620327192479577272145303]),
  (1531, 2, [2, 3, 3, 5, 17]),
  (661, 2, [2, 2, 3, 5, 11]),
  (490463, 14, [2, 7, 53, 661]),
  (115792089210356248762697446949407573530086143415290314195533631308867097853951, 6, [2, 3, 5, 5, 17, 257, 641, 1531, 65537, 490463, 6700417, 835945042244614951780389953367877943453916927241]),
  (131, 2, [2, 5, 13]),
  (71, 7, [2, 5, 7]),
  (37, 2, [2, 2, 3, 3]),
  (9547, 2, [2, 3, 37, 43]),
  (38189, 2, [2, 2, 9547]),
  (3407, 5, [2, 13, 131]),
  (263, 5, [2, 131]),
  (126241, 7, [2, 2, 2, 2, 2, 3, 5, 263]),
  (19, 2, [2, 3, 3]),
  (337, 10, [2, 2, 2, 2, 3, 7]),
  (31, 3, [2, 3, 5]),
  (104471, 11, [2, 5, 31, 337]),
  (3969899, 2, [2, 19, 104471]),
  (1002328039319, 19, [2, 126241, 3969899]),
  (97, 5, [2, 2, 2, 2, 2, 3]),
  (29, 2, [2, 2, 7]),
  (16879, 3, [2, 3, 29, 97]),
  (1297, 10, [2, 2, 2, 2, 3, 3, 3, 3]),
  (41, 6, [2, 2, 2, 5]),
  (155317, 5, [2, 2, 3, 7, 43, 43]),
  (191039911, 3, [2, 3, 5, 41, 155317]),
  (151, 6, [2, 3, 5, 5]),
  (1511, 11, [2, 5, 151]),
  (3023, 5, [2, 1511]),
  (127, 3, [2, 3, 3, 7]),
  (208150935158385979, 2, [2, 3, 11, 43, 127, 3023, 191039911]),
  (2624747550333869278416773953, 7, [2, 2, 2, 2, 2, 2, 3, 3, 1297, 16879, 208150935158385979]),
  (373, 2, [2, 2, 3, 31]),
  (311, 17, [2, 5, 31]),
  (311245691, 2, [2, 5, 7, 17, 29, 29, 311]),
  (622491383, 5, [2, 311245691]),
  (1201, 11, [2, 2, 2, 2, 3, 5, 5]),
  (229, 6, [2, 2, 3, 19]),
  (9350987, 2, [2, 17, 229, 1201]),
  (187019741, 2, [2, 2, 5, 9350987]),
  (115792089210356248762697446949407573529996955224135760342422259061068512044369, 7, [2, 2, 2, 2, 3, 71, 131, 373, 3407, 17449, 38189, 187019741, 622491383, 1002328039319, 2624747550333869278416773953])]

theorem tab_ok : tabOk [2] tab = true := by decide +kernel

def pp : Nat := 115792089210356248762697446949407573530086143415290314195533631308867097853951
def nn : Nat := 115792089210356248762697446949407573529996955224135760342422259061068512044369
instance : NeZero pp := ⟨by decide +kernel⟩
instance : NeZero nn := ⟨by decide +kernel⟩

theorem two_only : ∀ q, q ∈ [2] → Pr q := by
  intro q hq
  have : q = 2 := List.mem_singleton.mp hq
  rw [this]
  exact pr_two

theorem pp_root : ∃ g : Fin pp, Root g := by
  obtain ⟨ps, hp, h⟩ := (tab_pr tab [2] two_only tab_ok (115792089210356248762697446949407573530086143415290314195533631308867097853951, 6, [2, 3, 5, 5, 17, 257, 641, 1531, 65537, 490463, 6700417, 835945042244614951780389953367877943453916927241]) (by decide +kernel)).2
  exact ⟨_, (row_root (n := pp) hp h).2⟩

theorem nn_pr : Pr nn := (tab_pr tab [2] two_only tab_ok (115792089210356248762697446949407573529996955224135760342422259061068512044369, 7, [2, 2, 2, 2, 3, 71, 131, 373, 3407, 17449, 38189, 187019741, 622491383, 1002328039319, 2624747550333869278416773953]) (by decide +kernel)).1

/-! P-256. -/
def bb : Nat := 41058363725152142129326129780047268409114441015993725554835256314039467401291
def gx : Nat := 48439561293906451759052585252797914202762949526041747995844080717082404635286
def gy : Nat := 36134250956749795798585127919587881956611106672985015071877198253568414405109

def E256 : Cur pp := { a := F (pp - 3), b := F bb, inv := fun x => pf x (pp - 2) }

theorem pp_big : 3 < pp := by decide +kernel

theorem F_pp : (F pp : Fin pp) = 0 := Fin.ext (Nat.mod_self pp)
theorem F_one : (F 1 : Fin pp) = 1 := rfl
theorem F_zero : (F 0 : Fin pp) = 0 := rfl
theorem F_three : (F 3 : Fin pp) = 3 := rfl
theorem F_two : (F 2 : Fin pp) = 2 := rfl

/-- Less. -/
def sb (x y : Nat) : Nat := (x + (pp - y % pp)) % pp
theorem F_sb (x y : Nat) : (F (sb x y) : Fin pp) = F x - F y := by
  have h1 : y % pp ≤ pp := Nat.le_of_lt (Nat.mod_lt _ (Nat.lt_trans (by decide) pp_big))
  have e : (F (pp - y % pp) : Fin pp) + F y = 0 := by
    rw [← F_mod y, ← F_add, Nat.sub_add_cancel h1, F_pp]
  unfold sb
  rw [F_mod, F_add]
  generalize (F (pp - y % pp) : Fin pp) = z at e
  generalize (F y : Fin pp) = v at e ⊢
  clear h1
  grobner
theorem F_p3 : (F (pp - 3) : Fin pp) = - 3 := by
  have e : (F (pp - 3) : Fin pp) + 3 = 0 := by
    rw [← F_three, ← F_add, Nat.sub_add_cancel (Nat.le_of_lt pp_big), F_pp]
  generalize (F (pp - 3) : Fin pp) = z at e ⊢
  grobner

/-- Products of numbers of three parts: of c0 + c1 r + c2 r r, where r r r = 3 r - b. -/
def tm (u v : Nat × Nat × Nat) : Nat × Nat × Nat :=
  let r3 := u.2.1 * v.2.2 + u.2.2 * v.2.1
  let r4 := u.2.2 * v.2.2
  ((u.1 * v.1 + (pp - bb) * r3) % pp, (u.1 * v.2.1 + u.2.1 * v.1 + 3 * r3 + (pp - bb) * r4) % pp, (u.1 * v.2.2 + u.2.1 * v.2.1 + u.2.2 * v.1 + 3 * r4) % pp)

def ev (u : Nat × Nat × Nat) (r : Fin pp) : Fin pp := F u.1 + F u.2.1 * r + F u.2.2 * (r * r)

theorem F_bb : (F (pp - bb) : Fin pp) = - F bb := by
  have e : (F (pp - bb) : Fin pp) + F bb = 0 := by
    rw [← F_add, Nat.sub_add_cancel (by decide +kernel), F_pp]
  generalize (F (pp - bb) : Fin pp) = z at e ⊢
  generalize (F bb : Fin pp) = v at e ⊢
  grobner

theorem ring_tm {n : Nat} [NeZero n] (a0 a1 a2 b0 b1 b2 b r : Fin n) (h : r * r * r = 3 * r - b) : (a0 * b0 + - b * (a1 * b2 + a2 * b1)) + (a0 * b1 + a1 * b0 + 3 * (a1 * b2 + a2 * b1) + - b * (a2 * b2)) * r + (a0 * b2 + a1 * b1 + a2 * b0 + 3 * (a2 * b2)) * (r * r) = (a0 + a1 * r + a2 * (r * r)) * (b0 + b1 * r + b2 * (r * r)) := by
  have : b = 3 * r - r * r * r := by grobner
  subst this
  clear h
  grobner

theorem tm_ev {r : Fin pp} (h : r * r * r = 3 * r - F bb) (u v : Nat × Nat × Nat) : ev (tm u v) r = ev u r * ev v r := by
  obtain ⟨a0, a1, a2⟩ := u
  obtain ⟨b0, b1, b2⟩ := v
  unfold tm ev
  dsimp only
  rw [F_mod, F_mod, F_mod]
  simp only [F_add, F_mul]
  rw [F_bb, F_three]
  exact ring_tm _ _ _ _ _ _ _ _ h

def tp : Nat → Nat × Nat × Nat → Nat → Nat × Nat × Nat
  | 0, _, _ => (1, 0, 0)
  | f + 1, u, e => if e = 0 then (1, 0, 0) else if e % 2 = 1 then tm u (tp f (tm u u) (e / 2)) else tp f (tm u u) (e / 2)

theorem ring_one {n : Nat} [NeZero n] (r : Fin n) : 1 + 0 * r + 0 * (r * r) = 1 := by grobner

theorem ev_one (r : Fin pp) : ev (1, 0, 0) r = 1 := by
  unfold ev
  dsimp only
  rw [F_one, F_zero]
  exact ring_one r

theorem tp_ev {r : Fin pp} (h : r * r * r = 3 * r - F bb) : ∀ (f : Nat) (u : Nat × Nat × Nat) (e : Nat), e < 2 ^ f → ev (tp f u e) r = pf (ev u r) e
  | 0, u, e, he => by
    have : e = 0 := by omega
    subst this
    exact ev_one r
  | f + 1, u, e, he => by
    unfold tp
    have hd : e / 2 < 2 ^ f := by rw [Nat.pow_succ] at he; omega
    have ih := tp_ev h f (tm u u) (e / 2) hd
    rw [tm_ev h, pf_sq] at ih
    by_cases h0 : e = 0
    · rw [if_pos h0, h0]; exact ev_one r
    · rw [if_neg h0]
      by_cases h1 : e % 2 = 1
      · rw [if_pos h1, tm_ev h, ih]
        have e1 : e = 2 * (e / 2) + 1 := by omega
        generalize e / 2 = k at e1
        subst e1
        exact mul_comm' _ _
      · rw [if_neg h1, ih]
        congr 1
        omega

def tq : Nat × Nat × Nat := tp 256 (0, 1, 0) pp
theorem tq_ok : tm (76626890310466861426869089647039036757962535851890885406097439786770458211455, 74462945259064871768191128030512052509059297803194871526163573358218695456204, 34768139465301476436978405170953382516735956999154666452188405812258086013549) (tq.1, tq.2.1 + (pp - 1), tq.2.2) = (1, 0, 0) := by decide +kernel

theorem no_root (r : Fin pp) : r * r * r + F (pp - 3) * r + F bb ≠ 0 := by
  intro h
  rw [F_p3] at h
  have h3 : r * r * r = 3 * r - F bb := by
    generalize (F bb : Fin pp) = v at h ⊢
    grobner
  obtain ⟨g, hg⟩ := pp_root
  have e1 : ev tq r = r := by
    unfold tq
    rw [tp_ev h3 256 _ pp (by decide +kernel)]
    have e0 : ev (0, 1, 0) r = r := by
      unfold ev
      dsimp only
      rw [F_one, F_zero]
      clear h h3
      grobner
    rw [e0]
    by_cases hr : r = 0
    · subst hr
      show pf 0 (pp - 1) * 0 = 0
      generalize pf (0 : Fin pp) (pp - 1) = z
      grobner
    · have e2 := root_inv hg hr
      have e3 : pf r (pp - 1 + 1) = pf r (pp - 1) * r := rfl
      rw [e2, one_mul', show pp - 1 + 1 = pp by decide +kernel] at e3
      exact e3
  have e2 : ev (tq.1, tq.2.1 + (pp - 1), tq.2.2) r = ev tq r - r := by
    have e4 : (F (pp - 1) : Fin pp) = - 1 := by
      have e : (F (pp - 1) : Fin pp) + 1 = 0 := by
        rw [← F_one, ← F_add, Nat.sub_add_cancel (by decide +kernel), F_pp]
      generalize (F (pp - 1) : Fin pp) = z at e ⊢
      grobner
    unfold ev
    dsimp only
    rw [F_add, e4]
    generalize (F tq.1 : Fin pp) = a0
    generalize (F tq.2.1 : Fin pp) = a1
    generalize (F tq.2.2 : Fin pp) = a2
    clear h h3 e1
    grobner
  have e5 := tm_ev h3 (76626890310466861426869089647039036757962535851890885406097439786770458211455, 74462945259064871768191128030512052509059297803194871526163573358218695456204, 34768139465301476436978405170953382516735956999154666452188405812258086013549) (tq.1, tq.2.1 + (pp - 1), tq.2.2)
  rw [tq_ok, e2, e1, ev_one] at e5
  generalize ev _ r = z at e5
  have z1 : (0 : Fin pp) ≠ 1 := by decide +kernel
  refine z1 ?_
  rw [e5]
  clear e5 h h3 e1 e2
  grobner

theorem good : Good E256 := by
  obtain ⟨g, hg⟩ := pp_root
  have h1 : 1 < pp := Nat.lt_trans (by decide) pp_big
  exact { hz := root_noz hg h1, nt := no_root, two := by decide +kernel, hinv := fun x hx => root_inv2 hg h1 hx }

/-- The curve's points. -/
abbrev Q := { p : P pp // E256.on p }

def grp : Ab Q where
  op p q := ⟨E256.add p.1 q.1, on_add good p.2 q.2⟩
  o := ⟨none, trivial⟩
  ng p := ⟨neg p.1, on_neg p.2⟩
  comm p q := Subtype.ext (add_comm' good p.2 q.2)
  assoc p q r := Subtype.ext (assoc good p.2 q.2 r.2)
  ido p := Subtype.ext (none_add E256 p.1)
  ngo p := Subtype.ext (add_neg E256 p.1)

theorem on_base : E256.on (some (F gx, F gy)) := by
  show F gy * F gy = F gx * F gx * F gx + F (pp - 3) * F gx + F bb
  rw [← F_mul, ← F_mul, ← F_mul, ← F_mul, ← F_add, ← F_add]
  exact Fin.ext (by decide +kernel)

def base : Q := ⟨some (F gx, F gy), on_base⟩

/-- Whether a line of slope l goes through both, and they aren't each other's negatives. -/
def lineOk (l x y x2 y2 : Nat) : Bool := decide (l * sb x2 x % pp = sb y2 y) && decide (l * (y + y2) % pp = (x * x + x * x2 + x2 * x2 + (pp - 3)) % pp) && (decide (sb x x2 ≠ 0) || decide ((y + y2) % pp ≠ 0))

theorem line_add {l x y x2 y2 : Nat} (h : lineOk l x y x2 y2 = true) (h1 : E256.on (some (F x, F y))) (h2 : E256.on (some (F x2, F y2))) :
    E256.add (some (F x, F y)) (some (F x2, F y2)) = some (F (sb (sb (l * l) x) x2), F (sb (l * sb x (sb (sb (l * l) x) x2)) y)) := by
  unfold lineOk at h
  simp only [Bool.and_eq_true, Bool.or_eq_true, decide_eq_true_eq] at h
  obtain ⟨⟨g1, g2⟩, g3⟩ := h
  have s1 : F l * (F x2 - F x) = (F y2 - F y : Fin pp) := by rw [← F_sb, ← F_mul, ← F_mod, g1, F_sb]
  have s2 : F l * (F y + F y2) = (F x * F x + F x * F x2 + F x2 * F x2 + F (pp - 3) : Fin pp) := by
    rw [← F_add, ← F_mul, ← F_mod, g2, F_mod, F_add, F_add, F_add, F_mul, F_mul, F_mul]
  have hn : ¬ ((F x : Fin pp) = F x2 ∧ (F y + F y2 : Fin pp) = 0) := by
    rintro ⟨e1, e2⟩
    rcases g3 with g | g
    · refine g ?_
      have : (F (sb x x2) : Fin pp) = 0 := by
        rw [F_sb, e1]
        generalize (F x2 : Fin pp) = v
        clear s1 s2 e1 e2
        grobner
      have := congrArg Fin.val this
      have this : sb x x2 % pp = 0 := this
      unfold sb at this ⊢
      rwa [Nat.mod_mod] at this
    · refine g ?_
      rw [← F_add] at e2
      exact congrArg Fin.val e2
  rw [add_of good h1 h2 hn ⟨s1, s2⟩]
  unfold third
  simp only [F_sb, F_mul]

def chain : List (Bool × Nat) → Nat → Nat → Nat → Option (Nat × Nat × Nat)
  | [], k, x, y => some (k, x, y)
  | (true, l) :: t, k, x, y => if lineOk l x y x y = true then chain t (k + k) (sb (sb (l * l) x) x) (sb (l * sb x (sb (sb (l * l) x) x)) y) else none
  | (false, l) :: t, k, x, y => if lineOk l x y gx gy = true then chain t (k + 1) (sb (sb (l * l) x) gx) (sb (l * sb x (sb (sb (l * l) x) gx)) y) else none

theorem chain_mul : ∀ (t : List (Bool × Nat)) (k x y : Nat) (r : Nat × Nat × Nat), (grp.mul k base).1 = some (F x, F y) → chain t k x y = some r → (grp.mul r.1 base).1 = some (F r.2.1, F r.2.2)
  | [], k, x, y, r, h, e => by
    have e : some (k, x, y) = some r := e
    obtain rfl := Option.some.inj e
    exact h
  | (true, l) :: t, k, x, y, r, h, e => by
    have hon := (grp.mul k base).2
    rw [h] at hon
    have e : (if lineOk l x y x y = true then chain t (k + k) (sb (sb (l * l) x) x) (sb (l * sb x (sb (sb (l * l) x) x)) y) else none) = some r := e
    by_cases hk : lineOk l x y x y = true
    · rw [if_pos hk] at e
      refine chain_mul t _ _ _ r ?_ e
      rw [grp.mul_add]
      show E256.add (grp.mul k base).1 (grp.mul k base).1 = _
      rw [h]
      exact line_add hk hon hon
    · rw [if_neg hk] at e; exact absurd e (by simp)
  | (false, l) :: t, k, x, y, r, h, e => by
    have hon := (grp.mul k base).2
    rw [h] at hon
    have e : (if lineOk l x y gx gy = true then chain t (k + 1) (sb (sb (l * l) x) gx) (sb (l * sb x (sb (sb (l * l) x) gx)) y) else none) = some r := e
    by_cases hk : lineOk l x y gx gy = true
    · rw [if_pos hk] at e
      refine chain_mul t _ _ _ r ?_ e
      show E256.add (grp.mul k base).1 base.1 = _
      rw [h]
      exact line_add hk hon on_base
    · rw [if_neg hk] at e; exact absurd e (by simp)

def steps : List (Bool × Nat) := [
  (true, 73404963663004311880882944372748989162084677934852963787452504780932599885725),
  (false, 18455939157588970446784565569990294768680858463148985486203132144235521409158),
  (true, 94077010709294835327335710377447664151039924665152497844385509293967802434042),
  (false, 17298896760937059227330305219937027545027516809470665448944811409727345455179),
  (true, 33744462628917865983834793244155171821667457958729417444696244301390630303270),
  (false, 8387993378041356477949655639557974465289092464874973152548928455537118027304),
  (true, 107913590891339763586570404493579235631221433394439457287933348614175279065401),
  (false, 101003233829374294254464418257344890901829826342818182899314988635586641471578),
  (true, 73721257366734510473601029265024128143084306532175521832108074613288196361150),
  (false, 8876555828433689728967995543578871721493560690139952555337855654508114429713),
  (true, 49956987125696543163365212668095534913489426971516538001084658164266584232952),
  (false, 109948437634422490447830279134419453200485828462474525455817625546636263566060),
  (true, 97390397146497799904381479216041063504071201037118011474949964806249578848990),
  (false, 80795057061897971965482161015637468876677908925054083149093637570996780002260),
  (true, 2863198373610500399949918110425951886070364341102820926408928831592840243512),
  (false, 71360271410006331994688904586613698443173341817434590696907157597759098315135),
  (true, 51126080295335133971572581823844994985216625563435458763687170964269549724155),
  (false, 79888962033259904802360558917474533632500779808228369548971036495638575173589),
  (true, 46850464523205843886243776921245341504659855906472732289286950208063178045938),
  (false, 82049011324756130821770114563222008656265494908085865519616214292886089810907),
  (true, 42201439154294479297818791700771876916847203434749601226972133501414832971272),
  (false, 106229803573881649611598350396230062686273437833329123763216946745938051777554),
  (true, 16369000143941809568122550604220640176652627427967929033918855914800892906770),
  (false, 74864637590629841271644889434526088213686554986968223816394172184980924384140),
  (true, 85828504532339093613948439770157277034585677272094372854877077371236919820609),
  (false, 38402888562079211472304434725914669767438316265758623963775124149777288339421),
  (true, 89751071957125369553349103129348241398320786258275402481372613884233427633239),
  (false, 48320574569101062595938531859750058570046349045782967708548483758214020495937),
  (true, 34715664709985773265095839839359165394965965999873560688596473041835304022832),
  (false, 37248782692036020521020669737805406328207687327370233795270532648280391986655),
  (true, 18213045838278291493870867698552939027909371890434029033343490503618731527787),
  (false, 75074638462744125718406173242555052542969393379527878775787640542926255750583),
  (true, 18126681452576708913690115356836697299921410073116988089797291276559687255203),
  (false, 33941616891450954805705669330052271694832463014175468224425006760649742799640),
  (true, 12359019315060310917032739197005016724415949889120672299078257019083701473765),
  (false, 97083912142437080679547589485029058597639004210516656270168047934943020344374),
  (true, 30515585219885793858330464749248875196356126394774453729516517453133617910099),
  (false, 110267629210054329599525815060142425545427637072042111684976991169579820038825),
  (true, 108427609530930381850914169163551293317955785083770213857565809468341925744726),
  (false, 35425339416413514450781068052794783761259190696790552764362861882766608416178),
  (true, 30691650196599370963318644943970509816940194974300637485985847860375531489183),
  (false, 73767845217005444543685506005800562251465416809330783401998790767177496318216),
  (true, 49071446858384623559634441871506817533311347800894512251187197563364307048716),
  (false, 22450630627113671487141729045973277772287063472671139062531701894311032525044),
  (true, 246398369117486413977576890911471786183402742655516259911192580954280129371),
  (false, 5440704982342684018714200785478436114186052156299448166630013479465655240430),
  (true, 82678506781928985946802018409188650695288361908527353026283526523681701564240),
  (false, 19669252657087186112744025154571376666490571079029327241706540916226855499262),
  (true, 97983910289160950110062491292522537945927030965029539953819248755688673043907),
  (false, 107262061509538212562233310537869815366591196390969006406860933473677048916526),
  (true, 22563738802984906093194304954648460563496354871539831344128449263828091335779),
  (false, 62889323627600697916121077132330228629777024134396175187407173961560155037043),
  (true, 67005987496533762522349721797619809259204060170617548162511399442010065284442),
  (false, 82429685953973276050906878264945482006473674615062627506726458009730692206220),
  (true, 59077299646832384403024218860812434308990449763262064487472974654731621241143),
  (false, 88752914659293083658747571361229409397153103810318973189277166450978384821710),
  (true, 1343658480667564329494968023201619601546375843270745644546888202610249725284),
  (false, 51348820930462226475679592235237705434821651794224504691040680876517669604028),
  (true, 98132133285139460524292995967688519657957785888073967799102371520045018372294),
  (false, 25566897147176221927865626006409292431466534900743534332788386437570538415192),
  (true, 10522125504155234337238927902569464210753398582770920291716940614301462099891),
  (false, 31684364798698599564617690806712112417562262411664129572319517563661815510450),
  (true, 104555946567286389792370838099024471843493796523862752548186056154541801728560),
  (true, 87185003277022714453495554820469931908587951283074689584489200932141184851951),
  (true, 102290578275991145773391791415444759461835579959628886621704647429177874408299),
  (true, 112058027311960515046957215189281606908195305841796123406856696715282189535735),
  (true, 35597195622703133496610498550630992986555911464123311226053898227580347407769),
  (true, 37869522475180083744938178272296846089239575967476808962076767218307516246816),
  (true, 83665229526843910575576259414031858276995819118225592631556002006018963361327),
  (true, 60335182151704775867089127284386192061139166715645380060226108072711830090806),
  (true, 103914240160845356833661375718184690407466683369452206669011007329267126096205),
  (true, 65177613485238411505762066086254442864014828079625793539882825440000903374575),
  (true, 15529539772737545434017552474622856700691243879508790136671089732285884757818),
  (true, 52041590357320812188780314911592952939662222567637978561852086839904097670844),
  (true, 44208027075984209832175850560514316244267756793042514067404579604156518742204),
  (true, 91093543835830246575737305470707600378346057465014691389200772227128643497335),
  (true, 96683468364239097603522744161141487774024498519916973672659108720986278946101),
  (true, 23424920283899733890826474375399335232920754552102446296160244673594752008246),
  (true, 103057569772381732661025303597141168486015349579815696774445108851019854064039),
  (true, 32975383636534723128906115342500812559913042624456542940875743952368152630286),
  (true, 29312306033421374657803998337941799041079746503331297541325847752927339010044),
  (true, 3523718244520710252896370731850737877054156053434087436586265151161315077219),
  (true, 10215548111160415768543568451557008487575725124175585253488311092553151410495),
  (true, 81951577729929157413203110387132521967274481918326146261944899706543581191259),
  (true, 32330744057940606064883101145198740754467600677463422165236783067803903418122),
  (true, 28019081833753191097233379250830650051986537991593640338327899565622963395353),
  (true, 89073244518576954847657416195273430640272266786978618995219003673095284251163),
  (true, 61962211466796988958615311639724952805368054717702688142287617637155752899609),
  (true, 109477984708084453533422284642717023519009230078173916074978835741701855302480),
  (true, 109452255664203710773423680945220055600392358242962580174716429819394862407820),
  (true, 82754585743683568612252483626513796518135231100551169733965403856424916827099),
  (true, 67467466162534937075719469219853157409778592346670008836075920744190097616240),
  (true, 43314266832197949953767785670930736362857644574701903714992563013025113651964),
  (true, 104465835838017961645031401180052788226065802478212439140119661152745229563397),
  (true, 40433888824704258336271536647972315030123400704493562287218852330294374598812),
  (false, 44216710529268162414046891549780093496334490122597146827575374531218501436499),
  (true, 59876144365278934484638454431091715509392674452599357302648928068816688321978),
  (false, 32359030787431714720445257412849822324102469276561757919260579264161647563842),
  (true, 56203551763128327654531768901347769018371355303424711803493238765263140702086),
  (false, 45057232249507709145842390643763683625994943943885029723256644360441433744631),
  (true, 36932547660878467631836283576359308756963275492677399552478681269060372871171),
  (false, 42350215630537327166447715060514657928305994783350484987106010657045220546646),
  (true, 2693224745073671592862212954453662516554242491576567253540641814362455282167),
  (false, 109073439437102875136858949755452477051864763417703775157445245824761828971206),
  (true, 1580777398428950574699406622134601119900822072027483458885699046594621085801),
  (false, 99169220883011493087861013489206592462701665499685244809101714124213638310671),
  (true, 53934601693913925841579754330298328807877374229804727596302298856022120574510),
  (false, 103448125630740065054341780514970771334083768509953905169297624838914364025836),
  (true, 71266446762930296667364111344496318848260631557046863706102625294070819746356),
  (false, 38151924339693841790591128323099021854892910974208234108791272434715986389049),
  (true, 44835830811694852121535753625614692656333698361770254481481536109440386070971),
  (false, 107851385434318419149207453653063482913748439726773372537108017894687782950643),
  (true, 1759944225795668153517223078070221470450457952709030339790356448563704124491),
  (false, 58170100431800387654725392059670637526943644751243600782416287660453133190945),
  (true, 2226860557160581154197238865459755048449475007518831810849011261458621833188),
  (false, 68790034385760816820449684705196675587978383079065003016348337611953946971172),
  (true, 14132541218166366383087187336884054435142915748710821752884044312203964098503),
  (false, 114340047534666139375435498518067279012006261201157205439284925701684062156517),
  (true, 42647811576164397220380383567077805881739016950728576120794438802377785038731),
  (false, 26348877474552727900504180010476330428643331931316005360005209627044007109078),
  (true, 45796454716196026944085030173853715099724790064072663103475139657256098662227),
  (false, 99363262547618985815543523148283983443545270477460807580009672048211669850766),
  (true, 60290885286483127606760730269293518588057567709273292110034084327870046688676),
  (false, 31189068751628223367216017832296445760970638168249881365790536951927005656920),
  (true, 75376560077569902168960370156851999683395728357534257441490901249635817013669),
  (false, 79043903791105920495539758888951962339122253190670094830084490922764513925220),
  (true, 85280464371761146737831246805351656811591566421138794945370114847652802803035),
  (false, 90080193691816582707388867233661660782983693629116091637003223055008636707262),
  (true, 42237647345310001547524403618350123895262698080690851238644748389409842178644),
  (false, 111278455460546278233663313366542494574203107254488985859531690585992195007357),
  (true, 20386794397189279681995972794312816389968712137869427930344049543425919196566),
  (false, 77725280078880875793248386652513624244661590299681258942139076354706858173990),
  (true, 29396493115743727075299279239166493948931974087399513865242606457878372438428),
  (false, 56597280744271473598767229563865763400574058557412762642126861715259121065118),
  (true, 29643443909326599742580875537343350579870354660318719818638710910725626734925),
  (false, 18996083147106004620487401306268146017171489657266724183313403753699931665065),
  (true, 31836145741312682450682951637273022227583216004789962396096898536213288400810),
  (false, 1368399364491949146849472283658319591439119417562139444777678574564880363758),
  (true, 90408121083371702440526860270968299724040337520984598974299989461444677677990),
  (false, 97264794844719164698016074668062034901184896795973314795354056554441543736021),
  (true, 45545000565044531843438025913757846724658800764670431616735711677075560416894),
  (false, 32689145857822880732893438421895733539436080824863921456042719109955790201940),
  (true, 37213186937523465406790386754250216950472482622979224959220194266409264665320),
  (false, 19369677830855960389806917384222968911049319639687193697168982912549896094571),
  (true, 36426315980861341057504788408495604391037931369655984587954362716695047141855),
  (false, 82046836791395930413005551327626014930261595231788492002287321876338487935649),
  (true, 26745615262053412641849216945867523278149157829120528798387966873165676415322),
  (false, 98978728129670055138657231564231893937594926521113280060905467806345739686995),
  (true, 15148507656381368504986185915835369742699375778098795139939265639479629670889),
  (false, 50224630036394627944152469233312140474174340097121944600386006942126403008938),
  (true, 44708486093363082279348154236947005845670241551188668753546184529188289268229),
  (false, 59272986110841544540718009621070162947334760553921273267582227688600962719136),
  (true, 95486846817518416829395836600636573110353539909610811183107487133653719372898),
  (false, 25260896594335036363303795675929580279802283719815437417781304430175422777177),
  (true, 13351579653159296582462257321830920014073464705519674757137726952869360038585),
  (false, 81663576490703417862602554112581027273065129864450228964952202916567578220328),
  (true, 72611794237493553216745404428290145642928229543419143023301726746837232504212),
  (false, 48261521384519712247049016141534583876967048475611968947939704851913111558051),
  (true, 19596522164807769803634893593727358797513445750183555518568893517994301671399),
  (false, 28116684930281724109779612866620482441619548927075153437291661503492564188022),
  (true, 88092693429984682181724954629015320626007791618380929478591052939772730762943),
  (false, 51689051411289057863172524143275930688619679910871739778477446678131052197602),
  (true, 11854047979516076002006028091193027203787190153238239653377529112855978264498),
  (false, 74336189992139545040358732653536926025397938117627573826712725090280123466399),
  (true, 51215761796391295945717904602192260047034233489227216504087987560930616688128),
  (false, 70965350222275731451579491853629595192742086063971463870478469187523831493731),
  (true, 78518609376371656162430678203306932823489098162683976636933961182354431945439),
  (false, 6403166077505122146663138973061931669714026996117722364593835028266131043956),
  (true, 108593070655756708403752176637920034602399732610524513598383731760823701647038),
  (false, 50799864103194029047845992409330080427219608424352762998410359110461975977635),
  (true, 114118741713006124192882174805536986890647524575882280518848773964620831208336),
  (false, 13910878780437662499852235219962575412427193660396128642704430613085706583782),
  (true, 90331757354632268321027062135584104662246051328067186977123696115011881915751),
  (false, 108189673957365163451328521172336381821806831295734688939791174066511662607459),
  (true, 75437857566797857110795730324234335474090811221699495169193194819099921749380),
  (false, 8584158628680597652796699442523731343199257074369531990958623185753374294982),
  (true, 100243263600570607090488290311487150544597119823243597100238066401593622156368),
  (false, 53195881593040850615294033302548722896587040134585818340183757496648609563952),
  (true, 92130653824046831937489174785426517530705607173493590393347233137455294795871),
  (false, 104859257624140594743560182251257993316400336216182154123443662958230597253267),
  (true, 68178528647516051969841425768436744408411647151767599740734550769743665420869),
  (false, 44089612748108169058580555779791816610165364393673312820090235490906200175908),
  (true, 17451521664014543531482579630268919331376693971277522446683852976596763165518),
  (false, 96906415495142294823505426039083308792394526848599349938767840659873810293901),
  (true, 89538400865952205701317630930181906330044205956706230011717807078145535913652),
  (false, 102620651583980271950767328001700136302936490269334672533985721919237162824110),
  (true, 24574163339067322835308457867786445568917727648957631095181839769382797223616),
  (false, 63335460181515645749119064864380168657967371033405406976307758678310635625215),
  (true, 62082474922921722338433972576907829425000051988102383015266531093489614870345),
  (false, 70059630453230426638884252446666336991759269775738254010804460306609635437534),
  (true, 77846719366841137429004795124148911810674350637299495976557174602108201723182),
  (false, 79840554680527048203632684248648079821302312031943585938515492895625410500967),
  (true, 25287156314192066902866147131496535930927892406511407810882897248712256635986),
  (false, 34324263890389706943022813962404254774922885712285719530044275966200430834555),
  (true, 69798994306189430180870401852743986521599065254807479457866208916151190578124),
  (false, 21994125470207237252444091565986950016049207580900100486767267944981227325880),
  (true, 45111355663175007673830239769112779734523922769636883633401761446248252466899),
  (false, 45084759124315329384230807823632340291627100211949918242724081728594796871240),
  (true, 94277632649973053044561144707099488498265186431722108733744263910793547369971),
  (false, 31700651863198516272973033584293922564565454461576950048416240518363807681209),
  (true, 23483827811966833768514814338169280420789730318465848027622391887783281292368),
  (false, 35121610555709880732556195523952626172444515003790060994599055114953986772189),
  (true, 36754733072347376599463293883698525380142026461898725930746146341783895110736),
  (false, 80847183445344835859729052013504598826778156486967605447624871713223128906755),
  (true, 59765818569221594819786233802602442922451981098777454317427210311236248614133),
  (false, 100884535391258230687122813027523409299278938509246559456960505350161682229949),
  (true, 105208445021363576261651038183209079370178751141861540317941289664537054040110),
  (false, 20478805942303620627148589737072312397812962861966454453711013155157723186773),
  (true, 18006066811992236768252063112136398603015125732904962596089207759128109642032),
  (false, 38532729146931432398682650934780358501531258354834415875491250124441444837683),
  (true, 89070832977907102454908871221622886715722559040117745079493154584335445103560),
  (false, 77147799100643971706306427631227800222531095998375912525531112446136008834381),
  (true, 81336813323806042663299861504312071016914889906523409867114508576841884388494),
  (false, 41203248499212552440188233716963027146746795981852123495596882429793083902679),
  (true, 92878089192223236181381024883903546684020895199051825217752961548400262902690),
  (false, 104243565992663639038244457211170136128749737083730486709737970658698856896196),
  (true, 105243468478750178513251914731101195855096321965502306522303933689887742746553),
  (false, 30819978034672279875862447608093499032290931761010951166068689351731373184344),
  (true, 45324994407792761697348281395935684745101395796997772543888716791034777621357),
  (false, 62364423143317259892418252210906436460106786043730228759228469381054428916676),
  (true, 64876024468968442277689677293165160528383170714421475513954578528808017935031),
  (false, 4382536497801851170578259770430246485054277942940866491603708568747940330289),
  (true, 55969133456263714299638216720363235988229734244649952240178357678090082805582),
  (false, 107804575852664949826319977474716604582315784976915925680175288377544659591719),
  (true, 6842696983610121476693140985605401006067463571831801628639890206183594301001),
  (true, 89227009677593734455092424151312429785196538269746284633723438410284525574923),
  (false, 39467874897276015006342227972849938852858965570552618109012234202944677283608),
  (true, 73310905249629292750573415259896839865550003071437965445839039175371403888488),
  (false, 22494629369180603217228501492268032106570824285485378433241799110885385596132),
  (true, 89416636710036394747513194648374672171817283287492827933039381731248729800362),
  (false, 3765544845208169229761921702290223046713451272130770172098900687846335328213),
  (true, 77215402206150575994212588396270822213324313165272715872521897052444781819957),
  (false, 99131600260434464403077990764984231342750973343807824302586860806343917794402),
  (true, 46722349102476586499288377892754313083828035907015456683646369440675137900695),
  (true, 107817413956952308000485590521940549430748221876636176457153376876707234427934),
  (true, 92981736123359439935143501970256591664663013732531879702586262052379832131327),
  (false, 5878779294817255955775219955132645617733111632067044423936611468397108627693),
  (true, 39066630856641836027966188058037826613304870756998191149949319795315952277505),
  (false, 7023799785834031832279160125861864095484483118356619039204603143653769966430),
  (true, 40620427165891173097083626369917219701345398952624445003690492856578532213334),
  (false, 86678614764064862357971136219980302309746202716703893531704819465307072826150),
  (true, 79287123822375383354093906045904910561466342133298098142721228520519570063186),
  (true, 78400895777110603117168578481903086034393874045114718378124233596354887060896),
  (true, 32675901099753495025630240846587627568888473791209307200609765835956424331558),
  (false, 104697821467469492652224601606530318349499621419886841330525396996543225358311),
  (true, 90954253001292348035464129968199094353787897608900086103196912805036115527139),
  (false, 109068273969296649278703294035713251373939019245975776508860276599239128104829),
  (true, 114862052398668680947305957849925509680631844765463026776421314838849381374135),
  (true, 4451733364738401822870649247743923122274642171473347653566236810616110798908),
  (false, 105357305042954581406527367139519673843600544214290463858437591558254409566960),
  (true, 45156431895087167574693291429038452773895478090702165922430635530896388400010),
  (false, 96751341169405603503181343087217972587776942989798876857308945166899429449691),
  (true, 78949794685319288503175268641086420673019920730870338857908779100069320789469),
  (false, 12528443965739532406872468611268858130607615096904964879682237655992719012042),
  (true, 17612738457056860441756967203320311171379299392994687504756784503351080687202),
  (false, 20921681899761880888294787511175123879644293856460673466479011688680124115644),
  (true, 61264156006629702044199557864519856883258104481925060514728847644073704549298),
  (false, 101487930328126816950102324460846860561502366090510408680222703137632149529942),
  (true, 109864625962434667767074196088884114323664435567243146764616830213554190827562),
  (true, 65683043189853553149067422650195529016802167620052711059299427601785396928068),
  (false, 97886237573861015232340922830031684339952065489214701718338155032311842103603),
  (true, 56334292367403412662410184013920056314386632527197993187742815054829687643187),
  (true, 24322520934728692067295441818256374567058904112093935855488214825113109368707),
  (false, 113427146488114381489980164526839616474260951709515817980744174520190862727281),
  (true, 45600249122893859364452937197636300452519698076589744228163916002717878942574),
  (true, 23860765095911696355536101961972812137820573795768394392290577904457982995407),
  (false, 41555827998483151334214427517474012956070046451938093854742879319677808061014),
  (true, 36331752644874193314589090615138944831592133580386863353585736361415845879454),
  (true, 20570457662390503157837218165847138635215693353048658823114789844270198965055),
  (false, 6928604201116500537925197527104799797426966374600335663212083550052627274827),
  (true, 90503024886222466445910956539242962584895452090818022777689908237001773627394),
  (false, 21504978398594920567190744045594138977339125411268175394819410129307375620569),
  (true, 103389442367378709500129540027961840949701588261070988894123721595032406336618),
  (true, 107557261614453713906057672803816336172929968943345861743745810883526585690919),
  (false, 13791487654797255041210029727263067456355196774703981698496244235868022418801),
  (true, 114688123630903849386319660965126768089496745933681053664721587986837568231017),
  (false, 92699683356705463032989917143982824087263445638188140108374483203046691016236),
  (true, 33568429453957272088637597505678673438124695105447881390688209467723578932442),
  (true, 17191620986139768750507542130154500389037514165555603718265466845447421338082),
  (false, 20777427694881610050827073052830823461977088995420687290234880181088835477747),
  (true, 10190335659228560594655225070484631712737660236026892490421339568374730423976),
  (true, 20858386030135550732706536658360988526219833157296531524461690045786227812773),
  (true, 34719946098369098079110893759984119410080239870564230614132225195399315314060),
  (false, 67505429068685431932830173846391667329263150257983496025170360458468726928976),
  (true, 104700292323100616370524927958144411601500412924979194192782814446735411199899),
  (false, 61601708860008520747753376843703952875993118917460273291902042291227696622472),
  (true, 43529639378104324457169140601940988150427167069475064464366644546707572726923),
  (false, 28034642018981874676193437987174878705820206348941589398638407301158159235844),
  (true, 22847216734594786264978517006548715017438690114164923016774000228003579908888),
  (true, 57006326771675166938253274640014290410987321212691641769744593278470657399320),
  (true, 61188191400965538014465498456641756873627144923558166504983091519199122563709),
  (true, 38427815707571053659690979624415076731817891185380229328471569875188852606809),
  (false, 111078335344839620088504877408040387836784782228456452535036502485174999068425),
  (true, 41075138505142334263141879168957541818925770159420674030524089826345798161262),
  (true, 67160381721388468816860281693784209619358740254252827339582230087851433243252),
  (false, 59294238945820065880709522772662203116076062726221255280140838961982879755246),
  (true, 91557825219255575652534467137894351858668188610376173534029296284929482061297),
  (false, 67086919321465504627438952929105647518201016104965553581267819377672377894377),
  (true, 101397502575784632180589891948016941599896339592153044640853035655775307777014),
  (false, 76412799763477606375698745358211337982947788309479137177885645997365517576219),
  (true, 63118030303642548378665323481356934434914000326802373588693188379029970673552),
  (false, 81727193064488394472606592473943845666818416165663032037453473401675589511090),
  (true, 1365880450802188703193992349857055150017525649617494598184502591331820317828),
  (true, 24249466901890466523356922091875300977341171605656217437690630091486446110563),
  (true, 52520149218157241666968569457133853785247467428819614894517984140707789543308),
  (false, 90023917166405953124366167411819741222133367114937032034517615471995174804608),
  (true, 49576759368578869511451818201795060564944153263268174908232882000114518463844),
  (false, 69719727478591150579129951276850553146094525256362102802997327208206126714745),
  (true, 39387074553660814856284832338886959955026432518842662514623031493253605354284),
  (false, 24150939270033518108471627256217685479313948887890991469507527819823802326839),
  (true, 40794565349924448048018282647138841547656206251743342719578175646404503994932),
  (false, 106362391830013531104601240317014741440557532474635442086224537832241530169469),
  (true, 72544474712471297663693408796327132856162737291129515811037852886770857667610),
  (true, 72221406740123949453687156800891020610818798093248675472379810954659572267830),
  (false, 15854762726855456903853592208127843771278673596029335089551869893594102968363),
  (true, 38193310340305465208053615396901143808178965853446075577001410605526543297671),
  (true, 57009442585358948283679804494421846286512375799861877656875590261272444077600),
  (true, 6342663167678140050046339311707006532603736078593584660270789761940947605557),
  (true, 97131743972107047864310451641136806728140869932903710646063492931157017381045),
  (true, 15893405817092515174714779718425859383547298242482376130008291033589485873319),
  (false, 40855092305992633435026348101060346439774943148589808981597675913911554361604),
  (true, 25721172972147193763348371063863201309009625264190974028796506816067020157681),
  (true, 67719677866474259080646649624365071025163027001740620961015898026559041515825),
  (true, 115038705721040549955496299836511775907179382880943666414106641735588680302947),
  (false, 52440631014883964430493410791658788423099095006036779533519039688823595042178),
  (true, 76994695236887114335252095985052418517097947282561976881434542118626623073798),
  (false, 99640968817291275978917744002037467344886262113767070868681968000720889174653),
  (true, 12078464435114838399136295861599407256787671833192806866232522567718144322002),
  (false, 66130196829682072558770075227475827891294565616428985468520678856955345918412),
  (true, 13981377110660502333545653188764445074558706352404435223175800578407269784586),
  (false, 13347430286819234240628998565208152173989495759193151090752606367930559580071),
  (true, 97931427411243549066540555046649563010001251023341015271444019036481726177659),
  (true, 23916383908504127320814920499247235338071943260790068826695851199774658532161),
  (true, 26313340593335717918581901439133208303068203838844827384304076969757474910972),
  (false, 80128608451976981805667407082565726742997875812361182778264223782204752255967),
  (true, 32408548149079939902047627425708216530879846808358322152498677487820947054329),
  (false, 16010101701891125666896969243601564372730495804971055803867278630183336338004),
  (true, 49444381710738592530283467511948112497508332384718783907767430114922005351536),
  (false, 92828642277081366569811881538886767768824527756612010214661724621696417552003),
  (true, 48319616541892761948300511088731867773797509517308432235455759078303911340162),
  (true, 83256453897004885747416333287163591597855537401084730349087974962939459868896),
  (false, 68571215513029431022008249430271836302363194579159663168424939031982850964201),
  (true, 17711232392101925965222157895168584423974928404422476521666848844209071882853),
  (false, 40061894962387627545028357475016263837596480334836870170656706475325765555795),
  (true, 65018201682654616204826564250923544344726438484646211354657396991279714304043),
  (false, 80639074148519625911124643915170327509025844317305379230475078713935188556488),
  (true, 13634553361178251300919821676365112978366182598744573712433944080389322256603),
  (true, 79372263453053073247238091694958593899985338590758992589263680805139040634123),
  (true, 106221720130811713274006420822825952553453851281868605163143221025034427117790),
  (false, 43397126114913356459098179214386698510346771631844608755117167122149689871784),
  (true, 71271691688561222477502904152573958440968540755517837557340650451458965781820),
  (false, 99832633758149498305202074410515233217082213191075953167089849402873244722024),
  (true, 39757901017891700884131209795226371235400392489279283652421447965533388200539),
  (false, 52780034181730602741283877029475801174871771490591925162455325072426536899620),
  (true, 112899048161347407461053233929617785911275408481364641445520462256580259958039),
  (true, 14240764264428884035059087500334795182274960095819322710721277045654501298711),
  (true, 7120832132114496431415615164698655765418543566781986915004929246328975513408),
  (false, 71169160650287362263251096980907469354926136363821741313822650470003039629713),
  (true, 10524500947819599246738599106857533519075548878864584680076101042506218288116),
  (true, 91888230921955245550501605389226550268587232094589727374310301014323294317743),
  (false, 52830449137875271882896876676085542643570974698399403271147467955442348229765),
  (true, 68588867449926396854193278619386521660548956785015474810946215001524438754610),
  (true, 79794116190992081243503321414503006963797780439363841565792850431941777486878),
  (false, 82990656174278792072788400992532911274448062812349026533419169279507588848451),
  (true, 107993394619758876514650470945288164399300550225498061501312202546186509557593),
  (false, 94700534674561642518583986861475334573060125011608063280154045780982983017587),
  (true, 94748858405437480314494716377738013592262933264866181994278424195654017933147),
  (true, 110090688395069473002612821939944391235001290312777969309929959957043898773260),
  (true, 86001537025197276084803175404708590391678700573696975715364854235602973136960),
  (true, 97005571104555948580875596805916334960621595822566663609978083122027239592845),
  (true, 5488572262402578378589535690094257829783448094408686017389464438611864649055),
  (false, 40578906946163154587196708265429653145500949959917653841457841881972492705405),
  (true, 101140014554495416031849415469571900099789317226481011332243963571339963416081),
  (true, 16278666112491805642521111162076401747277431823155320516738715560329681374032),
  (false, 21345816720784850786792028968414120249176051183684909413893802656026397751116),
  (true, 95794207916375400612188236966684198729475676497586325686640014115057663672899),
  (false, 38304348557891290800210679145002838400863915263157121872424117143473436213363),
  (true, 40989275867198528837818580904723583202505947987008637716933650594947933270569),
  (false, 8136736043771673704133559657815533675907176794954009985820969679685243089964),
  (true, 1983232849617585079203495760165156249543432121805775384620547813350167873265),
  (false, 106676845953096210610777316733001385383022150506883365694274546126522617545802),
  (true, 3786231895749059258258768019942145916986244434851588761732210190608888881140),
  (false, 7003026393907079330124421657796173856970017075690421482201530465804750648854),
  (true, 107556547398804584965923380679005314166033458044825653531378549341796870787135),
  (false, 19406443930254259308702488169491973685845707230826441600404434919165866969626),
  (true, 396240271226079312112517465191825215228541380447435716513128138844604463093),
  (true, 114367016617795868063316635489429699768417660887976604423339920318351359214389),
  (true, 75650478868455130737161608246474597750229468180929629630299859916819150746528),
  (true, 34405168371249009316530766693812821725953528615755956224439171954328966632374),
  (false, 11410590726481505752452318122382805754602791070942354747092762466609424055997),
  (true, 43767959953551064749725749799455751318842064246061777680432428612080005337377),
  (false, 103769124508935639291789587687202094118792663545621823180027379108120112898017),
  (true, 70791693820035661909893488112240360301525631271115123675622043088505748150556),
  (true, 115508749928134693825986523708005402895931834873645566053598291406369816586513),
  (true, 22625339349373815971839050908913925059556493830438786052004236675202916178072),
  (true, 77425353538430382319431649294292243780356000259960150359559273403798565258806),
  (false, 81326155548872198574647417018727751620474480061940036426480811840094543203214),
  (true, 113053033931809680513077370003912173079985276093602849796762554914199443229024),
  (false, 106674924911319916945218014589412756120224705370089798607160356512600393044261),
  (true, 30858888317741575458202316089213416194109987323505464082228500530540415253863),
  (true, 21374995312708214987368883756839090584918630701485846822280425151698232796497),
  (true, 104049711252471366021942165911671692181479163149217110694787277348118447920953),
  (false, 90169606689269173572286554834776073159084417604997754167679330598390672263828),
  (true, 6165138440403801557327700192285563912088791345059351429933665095587586756367),
  (true, 95638654087575220865514599927390236309670371176143459303804585300053262321193),
  (true, 93507096072782988905319625336485652224427812863632882600275756722876728702100),
  (false, 62972383805570798408282104168714462313021426670963980283421176680630504350744),
  (true, 27716377618015514619889894330877148387406398157576843441599641773290143662646),
  (true, 20476764488075895020000572145857444528920539241959680410301050806531365921077),
  (false, 49349310473956265162745111685043382946407793243101688113952424611456719943583),
  (true, 111172097099719159000974537484180927862914227103675072597202747239242612755976),
  (true, 105183041477427711256856663297204403995505456076753037136618489836537156502780),
  (false, 114992393277685970062266744656800751353863595515615363557585899852898704712791),
  (true, 8992663570177172605521845414261964924849228246651463797454665306269442345062),
  (true, 39018020149987714242246986945594517964680254843919629432323122217991705229979),
  (false, 70320377984314827821838576231466289945145144328243863501102399004713003907682),
  (true, 36661228441783414426633516774136062458879704552082600183592120886352783423353),
  (true, 84126526462178050181261884823144887717190756184101848216471003771620932292296),
  (true, 53085063961662281017418079401884276428623126487223128912759648345435944464786),
  (true, 59348699254776951351374474789973024249386570196781804898524919173779757720106)]

theorem steps_ok : chain steps 1 gx gy = some (nn - 1, gx, pp - gy) := by decide +kernel

theorem nn_base : grp.mul nn base = grp.o := by
  have h := chain_mul steps 1 gx gy _ (by rw [grp.mul_one]; rfl) steps_ok
  have h : (grp.mul (nn - 1) base).1 = some (F gx, F (pp - gy)) := h
  have e : nn = nn - 1 + 1 := by decide +kernel
  rw [e, grp.mul_succ]
  apply Subtype.ext
  generalize grp.mul (nn - 1) base = q at h ⊢
  show E256.add q.1 (some (F gx, F gy)) = none
  rw [h]
  refine add_opp E256 ⟨rfl, ?_⟩
  rw [← F_add, Nat.sub_add_cancel (by decide +kernel), F_pp]

/-- A point's number. -/
def code : Q → Nat
  | ⟨none, _⟩ => 0
  | ⟨some (x, y), _⟩ => 1 + 2 * x.val + (if y.val ≤ (- y).val then 0 else 1)

theorem code_lt (q : Q) : code q < 2 * pp + 1 := by
  obtain ⟨_ | ⟨x, y⟩, h⟩ := q
  · show 0 < _; omega
  · have := x.isLt
    show 1 + 2 * x.val + (if y.val ≤ (- y).val then 0 else 1) < _
    split <;> omega

theorem code_inj (q r : Q) (h : code q = code r) : q = r := by
  obtain ⟨_ | ⟨x, y⟩, hq⟩ := q <;> obtain ⟨_ | ⟨x', y'⟩, hr⟩ := r
  · rfl
  · exfalso
    have h : 0 = 1 + 2 * x'.val + (if y'.val ≤ (- y').val then 0 else 1) := h
    omega
  · exfalso
    have h : 1 + 2 * x.val + (if y.val ≤ (- y).val then 0 else 1) = 0 := h
    omega
  · change 1 + 2 * x.val + (if y.val ≤ (- y).val then 0 else 1) = 1 + 2 * x'.val + (if y'.val ≤ (- y').val then 0 else 1) at h
    have hx : x = x' := Fin.ext (by split at h <;> split at h <;> omega)
    subst hx
    have h2 : (if y.val ≤ (- y).val then 0 else 1) = (if y'.val ≤ (- y').val then 0 else 1) := by omega
    clear h
    change OnC _ _ _ _ at hq hr
    unfold OnC at hq hr
    have e : (y - y') * (y + y') = 0 := by
      have : y * y = y' * y' := by rw [hq, hr]
      clear hq hr h2
      grobner
    rcases good.hz _ _ e with e | e
    · have hy : y = y' := eq_of_sub e
      subst hy
      rfl
    · have hy : y' = - y := by clear hq hr h2; grobner
      have hy2 : y = - y' := by clear hq hr h2 hy; grobner
      rw [← hy, ← hy2] at h2
      have : y.val = y'.val := by split at h2 <;> split at h2 <;> omega
      have hy : y = y' := Fin.ext this
      subst hy
      rfl

theorem no_two (q : Q) (h : grp.op q q = grp.o) : q = grp.o := by
  obtain ⟨_ | ⟨x, y⟩, hq⟩ := q
  · rfl
  · exfalso
    have h : E256.add (some (x, y)) (some (x, y)) = none := congrArg Subtype.val h
    by_cases hy : y + y = 0
    · exact y_ne good hq (dbl_zero good hy)
    · have hn : ¬ (x = x ∧ y + y = 0) := fun e => hy e.2
      rw [add_of good hq hq hn (lam_slope good hq hq hn)] at h
      exact absurd h (by unfold third; simp)

/-- That many times any point is far. -/
theorem nn_all (q : Q) : grp.mul nn q = grp.o :=
  Ab.all_of nn_pr.2 (by decide +kernel) nn_base (by intro h; have h := congrArg Subtype.val h; have h : some (F gx, F gy) = none := h; exact absurd h (by simp)) code code_lt code_inj (by decide +kernel) no_two q

/-! How a walk meets these: numbers below the modulus, as values of the field's. -/

theorem pp_pr : Pr pp := by
  obtain ⟨g, hg⟩ := pp_root
  exact root_pr hg (Nat.lt_trans (by decide) pp_big)

theorem v_add (x y : Fin pp) : (x.val + y.val) % pp = (x + y).val := (Fin.val_add x y).symm
theorem v_mul (x y : Fin pp) : x.val * y.val % pp = (x * y).val := (Fin.val_mul x y).symm
theorem v_sub (x y : Fin pp) : (x.val + pp - y.val) % pp = (x - y).val := by
  have h := y.isLt
  rw [Fin.sub_def]
  show _ = (pp - y.val + x.val) % pp
  congr 1
  omega

theorem v_gcd {x : Fin pp} (h : x ≠ 0) : Nat.gcd x.val pp = 1 := by
  rcases pp_pr.2 _ (Nat.gcd_dvd_right x.val pp) with h1 | h1
  · exact h1
  · exfalso
    have h2 := Nat.gcd_dvd_left x.val pp
    rw [h1] at h2
    have h0 : x.val ≠ 0 := fun e => h (Fin.ext (by rw [e, Fin.val_zero]))
    have h3 := Nat.le_of_dvd (Nat.pos_of_ne_zero h0) h2
    have := x.isLt
    omega

/-- Two that make 1 with the same number are one. -/
theorem v_inv {x : Fin pp} {t : Nat} (ht : t < pp) (h : x.val * t % pp = 1) : t = (E256.inv x).val := by
  have e1 : x * F t = 1 := by
    apply Fin.ext
    rw [Fin.val_mul]
    show x.val * (t % pp) % pp = 1
    rw [Nat.mod_eq_of_lt ht, h]
  have hx : x ≠ 0 := by
    rintro rfl
    rw [Fin.val_zero, Nat.zero_mul, Nat.zero_mod] at h
    exact absurd h (by decide)
  have e2 := good.hinv x hx
  have e3 : (F t : Fin pp) = E256.inv x := by
    have : (F t : Fin pp) = x * F t * E256.inv x := by
      rw [mul_comm' x, mul_assoc', e2, mul_one']
    rw [this, e1, one_mul']
  rw [← e3]
  exact (Nat.mod_eq_of_lt ht).symm

theorem ring_on {n : Nat} [NeZero n] (b x y : Fin n) : y * y = x * x * x - 3 * x + b ↔ y * y = x * x * x + - 3 * x + b := by
  constructor
  · intro h; rw [h]; clear h; grobner
  · intro h; rw [h]; clear h; grobner

/-- Whether a point is on the curve, as the document says it. -/
theorem on_iff (x y : Fin pp) : E256.on (some (x, y)) ↔ y * y = x * x * x - 3 * x + F bb := by
  show y * y = x * x * x + F (pp - 3) * x + F bb ↔ _
  rw [F_p3]
  exact (ring_on _ _ _).symm

theorem ring_lam {n : Nat} [NeZero n] (x i : Fin n) : (3 * (x * x) + - 3) * i = 3 * (x * x - 1) * i := by grobner

theorem lam_same (x y : Fin pp) : E256.lam x y x y = 3 * (x * x - 1) * E256.inv (y + y) := by
  unfold Cur.lam
  rw [if_pos ⟨rfl, rfl⟩]
  show (3 * (x * x) + F (pp - 3)) * _ = _
  rw [F_p3]
  exact ring_lam _ _

theorem lam_else {x1 y1 x2 y2 : Fin pp} (h : ¬ (x1 = x2 ∧ y1 = y2)) : E256.lam x1 y1 x2 y2 = (y2 - y1) * E256.inv (x2 - x1) := if_neg h

theorem ring_neg {n : Nat} [NeZero n] (y1 y2 : Fin n) : y1 = 0 - y2 ↔ y1 + y2 = 0 := by
  constructor
  · intro h; subst h; grobner
  · intro h; grobner

theorem ring_neg2 {n : Nat} [NeZero n] (y : Fin n) : 0 - y = - y := by grobner

theorem add_far {x1 y1 x2 y2 : Fin pp} (h : x1 = x2 ∧ y1 = 0 - y2) : E256.add (some (x1, y1)) (some (x2, y2)) = none := add_opp E256 ⟨h.1, (ring_neg _ _).mp h.2⟩

theorem add_near {x1 y1 x2 y2 : Fin pp} (h : ¬ (x1 = x2 ∧ y1 = 0 - y2)) : E256.add (some (x1, y1)) (some (x2, y2)) = third x1 y1 x2 (E256.lam x1 y1 x2 y2) :=
  if_neg (fun e => h ⟨e.1, (ring_neg _ _).mpr e.2⟩)

/-- Where two on the curve aren't each other's negatives, what the slope is divided by isn't 0. -/
theorem down_same {x y : Fin pp} (h : E256.on (some (x, y))) : y + y ≠ 0 := fun e => y_ne good h (dbl_zero good e)

theorem down_else {x1 y1 x2 y2 : Fin pp} (h1 : E256.on (some (x1, y1))) (h2 : E256.on (some (x2, y2))) (hn : ¬ (x1 = x2 ∧ y1 = 0 - y2)) (hs : ¬ (x1 = x2 ∧ y1 = y2)) : x2 - x1 ≠ 0 := by
  intro e
  have hx := (eq_of_sub e).symm
  subst hx
  have e1 : y1 * y1 = y2 * y2 := by
    have h1 : y1 * y1 = _ := h1
    have h2 : y2 * y2 = _ := h2
    rw [h1, h2]
  have e2 : (y1 - y2) * (y1 + y2) = 0 := by clear h1 h2 hn hs e; grobner
  rcases good.hz _ _ e2 with h | h
  · exact hs ⟨rfl, eq_of_sub h⟩
  · exact hn ⟨rfl, (ring_neg _ _).mpr h⟩

/-- Multiples, by bits from the top. -/
theorem mul_top (k i : Nat) (q : Q) : grp.mul (k / 2 ^ i) q = (if k / 2 ^ i % 2 = 1 then grp.op (grp.op (grp.mul (k / 2 ^ (i + 1)) q) (grp.mul (k / 2 ^ (i + 1)) q)) q else grp.op (grp.mul (k / 2 ^ (i + 1)) q) (grp.mul (k / 2 ^ (i + 1)) q)) := by
  have e : k / 2 ^ (i + 1) = k / 2 ^ i / 2 := by rw [Nat.pow_succ, Nat.div_div_eq_div_mul]
  rw [e]
  generalize k / 2 ^ i = m
  rw [← grp.mul_add]
  by_cases h : m % 2 = 1
  · rw [if_pos h, ← grp.mul_succ]
    congr 1
    omega
  · rw [if_neg h]
    congr 1
    omega

/-- Behind n multiples they come again. -/
theorem mul_round (k : Nat) (q : Q) : grp.mul (k + nn) q = grp.mul k q := by rw [grp.mul_add, nn_all, grp.oid]

theorem mul_nn (k : Nat) (q : Q) : grp.mul (k % nn) q = grp.mul k q := by
  have e := Nat.div_add_mod k nn
  have h : grp.mul (nn * (k / nn)) q = grp.o := by rw [Nat.mul_comm, grp.mul_mul, nn_all, grp.mul_o]
  have h2 : grp.mul (nn * (k / nn) + k % nn) q = grp.mul k q := by rw [e]
  rw [← h2, grp.mul_add, h, grp.ido]

/-- A point's numbers: X, Y, and whether it is far. -/
def pX : P pp → Nat
  | none => 0
  | some (x, _) => x.val
def pY : P pp → Nat
  | none => 0
  | some (_, y) => y.val
def pFar : P pp → Bool
  | none => true
  | some _ => false

theorem pX_lt (p : P pp) : pX p < pp := by
  rcases p with _ | ⟨x, y⟩
  · exact Nat.lt_trans (by decide) pp_big
  · exact x.isLt
theorem pY_lt (p : P pp) : pY p < pp := by
  rcases p with _ | ⟨x, y⟩
  · exact Nat.lt_trans (by decide) pp_big
  · exact y.isLt
theorem p_inj {p q : P pp} (h1 : pX p = pX q) (h2 : pY p = pY q) (h3 : pFar p = pFar q) : p = q := by
  rcases p with _ | ⟨x, y⟩ <;> rcases q with _ | ⟨x', y'⟩
  · rfl
  · exact absurd h3 (by simp [pFar])
  · exact absurd h3 (by simp [pFar])
  · rw [show x = x' from Fin.ext h1, show y = y' from Fin.ext h2]

/-- What numbers stand for a point on the curve. -/
def isOn (X Y : Nat) (far : Bool) : Prop := if far = true then X = 0 ∧ Y = 0 else X < pp ∧ Y < pp ∧ E256.on (some (F X, F Y))

theorem isOn_iff (X Y : Nat) (far : Bool) : isOn X Y far ↔ ∃ q : Q, X = pX q.1 ∧ Y = pY q.1 ∧ far = pFar q.1 := by
  unfold isOn
  by_cases h : far = true
  · rw [if_pos h]
    subst h
    constructor
    · rintro ⟨rfl, rfl⟩
      exact ⟨grp.o, rfl, rfl, rfl⟩
    · rintro ⟨⟨_ | ⟨x, y⟩, hq⟩, h1, h2, h3⟩
      · exact ⟨h1, h2⟩
      · exact absurd h3 (by simp [pFar])
  · rw [if_neg h]
    have h : far = false := by simpa using h
    subst h
    constructor
    · rintro ⟨hx, hy, ho⟩
      exact ⟨⟨_, ho⟩, (Nat.mod_eq_of_lt hx).symm, (Nat.mod_eq_of_lt hy).symm, rfl⟩
    · rintro ⟨⟨_ | ⟨x, y⟩, hq⟩, h1, h2, h3⟩
      · exact absurd h3 (by simp [pFar])
      · have h1 : X = x.val := h1
        have h2 : Y = y.val := h2
        subst h1
        subst h2
        rw [F_val, F_val]
        exact ⟨x.isLt, y.isLt, hq⟩
end Go.Proofs.Ytppfcdpokgnpfaa.Pt
