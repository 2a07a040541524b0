/-
  Merged: Pt Made C0 Yif N1 N2 NK NL.
-/
import Derived.WalkKit
import Derived.OrdersHeld
import Derived.StillTail
import Derived.Deep.RegionHeld3
import Derived.Deep.MidRow
import Derived.Deep.LoopGhost
import Derived.Deep.CutRange
import Derived.Deep.CutBlock
import Derived.Deep.RegionWith
import Derived.Deep.QuietTactic
import Derived.BigQuiet
import Derived.Laws.OwnMore
import Derived.Test.YthgenmoiendakaaDoorZ1
import Derived.Test.YthgenmoiendakaaDoorZ7

/-
  P-256: the group law of a curve over Fin n; primes by their roots; that its number of points makes far of every point.
-/
namespace Go.Proofs.YthgenmoiendakaaDoor.Pt
section law
variable {n : Nat} [NeZero n]

/-- A line of slope l through both, touching where they are one. -/
def Slope (a x1 y1 x2 y2 l : Fin n) : Prop := l * (x2 - x1) = y2 - y1 ∧ l * (y1 + y2) = x1 * x1 + x1 * x2 + x2 * x2 + a

def OnC (a b x y : Fin n) : Prop := y * y = x * x * x + a * x + b

/-- No product of two others is 0. -/
def NoZ (n : Nat) [NeZero n] : Prop := ∀ x y : Fin n, x * y = 0 → x = 0 ∨ y = 0

theorem mv1 {x1 y1 x2 y2 l : Fin n} (h : l * (x2 - x1) = y2 - y1) : y1 = y2 - l * (x2 - x1) := by grobner
theorem mv2 {x1 y1 x2 y2 l : Fin n} (h : l * (x2 - x1) = y2 - y1) : y2 = y1 + l * (x2 - x1) := by grobner

theorem slope_symm {a x1 y1 x2 y2 l : Fin n} (h : Slope a x1 y1 x2 y2 l) : Slope a x2 y2 x1 y1 l := by
  obtain ⟨h1, h2⟩ := h
  refine ⟨?_, ?_⟩ <;> grobner

theorem slope_uniq {a x1 y1 x2 y2 l m : Fin n} (hz : NoZ n) (hn : ¬ (x1 = x2 ∧ y1 + y2 = 0)) (h : Slope a x1 y1 x2 y2 l) (h' : Slope a x1 y1 x2 y2 m) : l = m := by
  obtain ⟨h1, h2⟩ := h
  obtain ⟨g1, g2⟩ := h'
  have e1 : (l - m) * (x2 - x1) = 0 := by grobner
  have e2 : (l - m) * (y1 + y2) = 0 := by grobner
  rcases hz _ _ e1 with h | h
  · grobner
  · rcases hz _ _ e2 with h' | h'
    · grobner
    · exact absurd ⟨by grobner, h'⟩ hn

/-- The third point of the line, turned over, is on the curve. -/
theorem on_third {a b x1 y1 x2 y2 l : Fin n} (h : OnC a b x1 y1) (hs : Slope a x1 y1 x2 y2 l) : OnC a b (l * l - x1 - x2) (l * (x1 - (l * l - x1 - x2)) - y1) := by
  obtain ⟨h1, h2⟩ := hs
  have ha : a = 2 * l * y1 + l * l * (x2 - x1) - x1 * x1 - x1 * x2 - x2 * x2 := by grobner
  have hb : b = y1 * y1 - x1 * x1 * x1 - a * x1 := by unfold OnC at h; grobner
  unfold OnC
  subst hb
  subst ha
  grobner

theorem tan0 {x3 xd y3 yd s : Fin n} (h : s * (x3 - xd) = y3 - yd) (hx : xd = x3) : yd = y3 := by subst hx; grobner
theorem tan1 {x1 x2 x3 y2 l m : Fin n} (hR : 2 * (l - m) * y2 = (x1 - x2) * (x1 + x2 + x3 - l * l) - (x3 - x2) * (x1 + x2 + x3 - m * m)) (h : l * l - x1 - x2 = x3) : (l - m) * (2 * y2 + (x3 - x2) * (l + m)) = 0 := by subst h; grobner
theorem tan2 {x2 x3 y2 y3 l m : Fin n} (h : 2 * y2 + (x3 - x2) * (l + m) = 0) (hy : y3 = y2 + m * (x3 - x2)) : y3 + y3 = (x3 - x2) * (m - l) := by subst hy; grobner
theorem tan3 {a x1 x2 x3 y2 y3 l m s : Fin n} (h : 2 * y2 + (x3 - x2) * (l + m) = 0) (hy : y3 = y2 + m * (x3 - x2)) (h4 : y3 + y3 = (x3 - x2) * (m - l)) (hx : l * l - x1 - x2 = x3)
    (m2 : m * (y2 + y3) = x2 * x2 + x2 * x3 + x3 * x3 + a) (s2 : s * (y3 + y3) = x3 * x3 + x3 * x3 + x3 * x3 + a) : (x3 - x2) * ((l - m) * (s + l) - (x1 - x3)) = 0 := by
  have e1 : y2 + y3 = - ((x3 - x2) * l) := by clear m2 s2 hx; subst hy; grobner
  rw [e1] at m2
  rw [h4] at s2
  clear h h4 hy e1
  have e2 : x1 = l * l - x2 - x3 := by grobner
  subst e2
  grobner
theorem sec1 {x1 x2 x3 y2 y3 l m s xd yd : Fin n} (h : s * (x3 - xd) = y3 - yd) (hy : y3 = y2 + m * (x3 - x2)) (hd : yd = l * (x1 - xd) - (y2 - l * (x2 - x1))) : (s + l) * (x3 - xd) = 2 * y2 + (l + m) * (x3 - x2) := by
  subst hy
  subst hd
  grobner
theorem sec2 {x1 x2 x3 y2 l m s : Fin n} (hR : 2 * (l - m) * y2 = (x1 - x2) * (x1 + x2 + x3 - l * l) - (x3 - x2) * (x1 + x2 + x3 - m * m)) (h : (s + l) * (x3 - (l * l - x1 - x2)) = 2 * y2 + (l + m) * (x3 - x2)) :
    (x3 - (l * l - x1 - x2)) * ((l - m) * (s + l) - (x1 - x3)) = 0 := by grobner
theorem keyR {a x1 y1 x2 y2 x3 y3 l m : Fin n} (hl : Slope a x1 y1 x2 y2 l) (hm : Slope a x2 y2 x3 y3 m) : 2 * (l - m) * y2 = (x1 - x2) * (x1 + x2 + x3 - l * l) - (x3 - x2) * (x1 + x2 + x3 - m * m) := by
  obtain ⟨l1, l2⟩ := hl
  obtain ⟨m1, m2⟩ := hm
  have hy1 := mv1 l1
  have hy3 := mv2 m1
  subst hy1
  subst hy3
  clear l1 m1
  grobner
theorem sub_ne {x y : Fin n} (h : x ≠ y) : x - y ≠ 0 := fun e => h (by grobner)
theorem eq_of_sub {x y : Fin n} (h : x - y = 0) : x = y := by grobner

/-- The key: the slope from the sum to the third point. -/
theorem key {a x1 y1 x2 y2 x3 y3 l m s : Fin n} (hz : NoZ n) (hlm : l ≠ m) (hl : Slope a x1 y1 x2 y2 l) (hm : Slope a x2 y2 x3 y3 m)
    (hs : Slope a (l * l - x1 - x2) (l * (x1 - (l * l - x1 - x2)) - y1) x3 y3 s) (hn : ¬ (l * l - x1 - x2 = x3 ∧ l * (x1 - (l * l - x1 - x2)) - y1 + y3 = 0)) : (l - m) * (s + l) = x1 - x3 := by
  have hR := keyR hl hm
  obtain ⟨l1, l2⟩ := hl
  obtain ⟨m1, m2⟩ := hm
  obtain ⟨s1, s2⟩ := hs
  have hy1 := mv1 l1
  have hy3 := mv2 m1
  by_cases hP : l * l - x1 - x2 = x3
  · have hyy := tan0 s1 hP
    have h3 : 2 * y2 + (x3 - x2) * (l + m) = 0 := by
      rcases hz _ _ (tan1 hR hP) with h | h
      · exact absurd (eq_of_sub h) hlm
      · exact h
    have h4 := tan2 h3 hy3
    rw [hyy, hP] at s2
    rcases hz _ _ (tan3 h3 hy3 h4 hP m2 s2) with h | h
    · refine absurd ⟨hP, ?_⟩ hn
      rw [hyy, h4, h]
      grobner
    · exact eq_of_sub h
  · rw [hy1] at s1
    rcases hz _ _ (sec2 hR (sec1 s1 hy3 rfl)) with h | h
    · exact absurd (eq_of_sub h).symm hP
    · exact eq_of_sub h

/-- A curve, with a way to turn numbers over. -/
structure Cur (n : Nat) [NeZero n] where
  a : Fin n
  b : Fin n
  inv : Fin n → Fin n

structure Good (E : Cur n) : Prop where
  hz : NoZ n
  nt : ∀ x : Fin n, x * x * x + E.a * x + E.b ≠ 0
  two : (2 : Fin n) ≠ 0
  hinv : ∀ x : Fin n, x ≠ 0 → x * E.inv x = 1

/-- The slope as the document has it. -/
def Cur.lam (E : Cur n) (x1 y1 x2 y2 : Fin n) : Fin n := if x1 = x2 ∧ y1 = y2 then (3 * (x1 * x1) + E.a) * E.inv (y1 + y1) else (y2 - y1) * E.inv (x2 - x1)

abbrev P (n : Nat) := Option (Fin n × Fin n)

def third (x1 y1 x2 l : Fin n) : P n := some (l * l - x1 - x2, l * (x1 - (l * l - x1 - x2)) - y1)

def Cur.add (E : Cur n) : P n → P n → P n
  | none, q => q
  | p, none => p
  | some (x1, y1), some (x2, y2) => if x1 = x2 ∧ y1 + y2 = 0 then none else third x1 y1 x2 (E.lam x1 y1 x2 y2)

def neg : P n → P n
  | none => none
  | some (x, y) => some (x, - y)

def Cur.on (E : Cur n) : P n → Prop
  | none => True
  | some (x, y) => OnC E.a E.b x y

variable {E : Cur n}

theorem lam_slope (G : Good E) {x1 y1 x2 y2 : Fin n} (h1 : OnC E.a E.b x1 y1) (h2 : OnC E.a E.b x2 y2) (hn : ¬ (x1 = x2 ∧ y1 + y2 = 0)) : Slope E.a x1 y1 x2 y2 (E.lam x1 y1 x2 y2) := by
  unfold OnC at h1 h2
  unfold Cur.lam
  by_cases hs : x1 = x2 ∧ y1 = y2
  · rw [if_pos hs]
    obtain ⟨rfl, rfl⟩ := hs
    have hi := G.hinv (y1 + y1) (fun h => hn ⟨rfl, h⟩)
    generalize E.inv (y1 + y1) = i at hi ⊢
    refine ⟨?_, ?_⟩
    · clear hi h1 h2; grobner
    · clear h1 h2; grobner
  · rw [if_neg hs]
    by_cases hx : x1 = x2
    · exfalso
      have e : (y1 - y2) * (y1 + y2) = 0 := by subst hx; grobner
      rcases G.hz _ _ e with h | h
      · exact hs ⟨hx, eq_of_sub h⟩
      · exact hn ⟨hx, h⟩
    · have hx' : x2 - x1 ≠ 0 := fun h => hx (eq_of_sub h).symm
      have hi := G.hinv (x2 - x1) hx'
      generalize E.inv (x2 - x1) = i at hi ⊢
      have e1 : (y2 - y1) * i * (x2 - x1) = y2 - y1 := by clear h1 h2; grobner
      refine ⟨e1, ?_⟩
      generalize (y2 - y1) * i = l at e1 ⊢
      clear hi
      have e : (x2 - x1) * (l * (y1 + y2) - (x1 * x1 + x1 * x2 + x2 * x2 + E.a)) = 0 := by grobner
      rcases G.hz _ _ e with h | h
      · exact absurd h hx'
      · exact eq_of_sub h

theorem add_of (G : Good E) {x1 y1 x2 y2 l : Fin n} (h1 : OnC E.a E.b x1 y1) (h2 : OnC E.a E.b x2 y2) (hn : ¬ (x1 = x2 ∧ y1 + y2 = 0)) (hl : Slope E.a x1 y1 x2 y2 l) : E.add (some (x1, y1)) (some (x2, y2)) = third x1 y1 x2 l := by
  show (if x1 = x2 ∧ y1 + y2 = 0 then none else third x1 y1 x2 (E.lam x1 y1 x2 y2)) = _
  rw [if_neg hn, slope_uniq G.hz hn (lam_slope G h1 h2 hn) hl]

theorem add_opp (E : Cur n) {x1 y1 x2 y2 : Fin n} (hn : x1 = x2 ∧ y1 + y2 = 0) : E.add (some (x1, y1)) (some (x2, y2)) = none := if_pos hn

theorem none_add (E : Cur n) (p : P n) : E.add none p = p := by cases p <;> rfl
theorem add_none (E : Cur n) (p : P n) : E.add p none = p := by cases p <;> rfl

theorem third_on {x1 y1 x2 y2 l : Fin n} (h1 : OnC E.a E.b x1 y1) (hl : Slope E.a x1 y1 x2 y2 l) : E.on (third x1 y1 x2 l) := on_third h1 hl

theorem on_add (G : Good E) {p q : P n} (hp : E.on p) (hq : E.on q) : E.on (E.add p q) := by
  rcases p with _ | ⟨x1, y1⟩
  · rw [none_add]; exact hq
  rcases q with _ | ⟨x2, y2⟩
  · rw [add_none]; exact hp
  by_cases hn : x1 = x2 ∧ y1 + y2 = 0
  · rw [add_opp E hn]; trivial
  · have hl := lam_slope G hp hq hn
    rw [add_of G hp hq hn hl]
    exact third_on hp hl

theorem third_symm {x1 y1 x2 y2 l a : Fin n} (hl : Slope a x1 y1 x2 y2 l) : third x1 y1 x2 l = third x2 y2 x1 l := by
  obtain ⟨h1, _⟩ := hl
  unfold third
  have e1 : l * l - x1 - x2 = l * l - x2 - x1 := by clear h1; grobner
  rw [← e1]
  have e2 : l * (x1 - (l * l - x1 - x2)) - y1 = l * (x2 - (l * l - x1 - x2)) - y2 := by
    have := mv2 h1
    clear h1 e1
    subst this
    grobner
  rw [e2]

theorem opp_symm {x1 y1 x2 y2 : Fin n} (h : x1 = x2 ∧ y1 + y2 = 0) : x2 = x1 ∧ y2 + y1 = 0 := ⟨h.1.symm, by have := h.2; clear h; grobner⟩

theorem add_comm' (G : Good E) {p q : P n} (hp : E.on p) (hq : E.on q) : E.add p q = E.add q p := by
  rcases p with _ | ⟨x1, y1⟩
  · rw [none_add, add_none]
  rcases q with _ | ⟨x2, y2⟩
  · rw [none_add, add_none]
  by_cases hn : x1 = x2 ∧ y1 + y2 = 0
  · rw [add_opp E hn, add_opp E (opp_symm hn)]
  · have hl := lam_slope G hp hq hn
    rw [add_of G hp hq hn hl, add_of G hq hp (fun h => hn (opp_symm h)) (slope_symm hl), third_symm hl]

theorem on_neg {p : P n} (hp : E.on p) : E.on (neg p) := by
  rcases p with _ | ⟨x1, y1⟩
  · trivial
  · change OnC _ _ _ _ at hp
    change OnC _ _ _ _
    unfold OnC at *
    rw [← hp]
    clear hp
    grobner

theorem neg_neg' (p : P n) : neg (neg p) = p := by
  rcases p with _ | ⟨x1, y1⟩
  · rfl
  · show some (x1, - - y1) = some (x1, y1)
    have : - - y1 = y1 := by grobner
    rw [this]

theorem add_neg (E : Cur n) (p : P n) : E.add p (neg p) = none := by
  rcases p with _ | ⟨x1, y1⟩
  · rfl
  · exact add_opp E ⟨rfl, by grobner⟩

/-- No number but 0 is its own negative. -/
theorem dbl_zero (G : Good E) {y : Fin n} (h : y + y = 0) : y = 0 := by
  have e : 2 * y = 0 := by grobner
  rcases G.hz _ _ e with h | h
  · exact absurd h G.two
  · exact h

theorem y_ne (G : Good E) {x y : Fin n} (h : OnC E.a E.b x y) : y ≠ 0 := by
  intro e
  subst e
  refine G.nt x ?_
  unfold OnC at h
  rw [← h]
  clear h
  grobner

theorem neg_add' (G : Good E) {p q : P n} (hp : E.on p) (hq : E.on q) : neg (E.add p q) = E.add (neg p) (neg q) := by
  rcases p with _ | ⟨x1, y1⟩
  · rw [none_add]; exact (none_add E _).symm
  rcases q with _ | ⟨x2, y2⟩
  · rw [add_none]; exact (add_none E _).symm
  by_cases hn : x1 = x2 ∧ y1 + y2 = 0
  · rw [add_opp E hn]
    exact (add_opp E ⟨hn.1, by have := hn.2; clear hn; grobner⟩).symm
  · have hl := lam_slope G hp hq hn
    rw [add_of G hp hq hn hl]
    have hn' : ¬ (x1 = x2 ∧ - y1 + - y2 = 0) := fun h => hn ⟨h.1, by have := h.2; clear h hl hn hp hq; grobner⟩
    generalize E.lam x1 y1 x2 y2 = l at hl ⊢
    have hl' : Slope E.a x1 (- y1) x2 (- y2) (- l) := by
      obtain ⟨g1, g2⟩ := hl
      refine ⟨?_, ?_⟩
      · clear g2 hn hn' hp hq; grobner
      · rw [← g2]; clear g1 g2 hn hn' hp hq; grobner
    have hN : E.add (neg (some (x1, y1))) (neg (some (x2, y2))) = third x1 (- y1) x2 (- l) := add_of G (on_neg hp) (on_neg hq) hn' hl'
    rw [hN]
    clear hl' hl hn hn' hN hp hq
    show some (_, _) = some (_, _)
    have e1 : - l * - l - x1 - x2 = l * l - x1 - x2 := by grobner
    rw [e1]
    have e2 : - (l * (x1 - (l * l - x1 - x2)) - y1) = - l * (x1 - (l * l - x1 - x2)) - - y1 := by grobner
    rw [e2]

/-- What two make, turned over, makes with the second what the first is, turned over. -/
theorem rot (G : Good E) {p q : P n} (hp : E.on p) (hq : E.on q) : E.add q (neg (E.add p q)) = neg p := by
  rcases p with _ | ⟨x1, y1⟩
  · rw [none_add]; exact add_neg E q
  rcases q with _ | ⟨x2, y2⟩
  · rw [none_add, add_none]
  by_cases hn : x1 = x2 ∧ y1 + y2 = 0
  · rw [add_opp E hn]
    show E.add (some (x2, y2)) none = some (x1, - y1)
    rw [add_none]
    obtain ⟨rfl, h⟩ := hn
    have : y2 = - y1 := by clear hp hq; grobner
    rw [this]
  · have hl := lam_slope G hp hq hn
    rw [add_of G hp hq hn hl]
    generalize E.lam x1 y1 x2 y2 = l at hl
    have h3 : E.on (neg (third x1 y1 x2 l)) := on_neg (third_on hp hl)
    change E.add _ (some (l * l - x1 - x2, - (l * (x1 - (l * l - x1 - x2)) - y1))) = _
    change E.on (some (l * l - x1 - x2, - (l * (x1 - (l * l - x1 - x2)) - y1))) at h3
    obtain ⟨g1, g2⟩ := hl
    have hy := mv1 g1
    have e1 : - (l * (x1 - (l * l - x1 - x2)) - y1) = y2 + l * (l * l - x1 - x2 - x2) := by clear g1 g2 h3 hn hp hq; subst hy; grobner
    rw [e1] at h3 ⊢
    have hs : Slope E.a x2 y2 (l * l - x1 - x2) (y2 + l * (l * l - x1 - x2 - x2)) l := by
      refine ⟨?_, ?_⟩
      · clear g1 g2 h3 hn hp hq hy e1; grobner
      · have : E.a = l * (y1 + y2) - (x1 * x1 + x1 * x2 + x2 * x2) := by rw [g2]; clear g1 g2 h3 hn hp hq hy e1; grobner
        rw [this, hy]
        clear this g1 g2 h3 hn hp hq hy e1
        grobner
    have hn2 : ¬ (x2 = l * l - x1 - x2 ∧ y2 + (y2 + l * (l * l - x1 - x2 - x2)) = 0) := by
      rintro ⟨h, h'⟩
      rw [← h] at h'
      refine y_ne G hq (dbl_zero G ?_)
      rw [← h']
      clear h h' hs g1 g2 h3 hn hp hq hy e1
      grobner
    rw [add_of G hq h3 hn2 hs]
    show some (_, _) = some (_, _)
    have e2 : l * l - x2 - (l * l - x1 - x2) = x1 := by clear hn2 hs g1 g2 h3 hn hp hq hy e1; grobner
    have e3 : l * (x2 - x1) - y2 = - y1 := by rw [hy]; clear hn2 hs g1 g2 h3 hn hp hq hy e1 e2; grobner
    rw [e2, e3]

/-- What was added is taken away again. -/
theorem back (G : Good E) {p q : P n} (hp : E.on p) (hq : E.on q) : E.add (neg q) (E.add p q) = p := by
  have h := rot G hp hq
  have h2 := congrArg neg h
  rw [neg_neg', neg_add' G hq (on_neg (on_add G hp hq)), neg_neg'] at h2
  exact h2

theorem fore (G : Good E) {p q : P n} (hp : E.on p) (hq : E.on q) : E.add p (E.add (neg p) q) = q := by
  have h := back G hq (on_neg hp)
  rw [neg_neg', add_comm' G hq (on_neg hp)] at h
  exact h

theorem opp_eq {x1 y1 x2 y2 : Fin n} (h : x1 = x2 ∧ y1 + y2 = 0) : (some (x2, y2) : P n) = neg (some (x1, y1)) := by
  obtain ⟨rfl, h⟩ := h
  have : y2 = - y1 := by grobner
  rw [this]
  rfl

/-- The two ways, where nothing meets its negative. -/
theorem two_ways (G : Good E) {x1 y1 x2 y2 x3 y3 : Fin n} (h1 : OnC E.a E.b x1 y1) (h2 : OnC E.a E.b x2 y2) (h3 : OnC E.a E.b x3 y3)
    (n12 : ¬ (x1 = x2 ∧ y1 + y2 = 0)) (n32 : ¬ (x3 = x2 ∧ y3 + y2 = 0))
    (nl : E.add (some (x1, y1)) (some (x2, y2)) ≠ neg (some (x3, y3))) (nr : E.add (some (x3, y3)) (some (x2, y2)) ≠ neg (some (x1, y1))) :
    E.add (E.add (some (x1, y1)) (some (x2, y2))) (some (x3, y3)) = E.add (E.add (some (x3, y3)) (some (x2, y2))) (some (x1, y1)) := by
  have hl := lam_slope G h1 h2 n12
  have hm := lam_slope G h3 h2 n32
  have el := add_of G h1 h2 n12 hl
  have em := add_of G h3 h2 n32 hm
  generalize E.lam x1 y1 x2 y2 = l at hl el
  generalize E.lam x3 y3 x2 y2 = m at hm em
  rw [el] at nl ⊢
  rw [em] at nr ⊢
  have onD : E.on (third x1 y1 x2 l) := third_on h1 hl
  have onF : E.on (third x3 y3 x2 m) := third_on h3 hm
  unfold third at nl nr onD onF ⊢
  have nD : ¬ (l * l - x1 - x2 = x3 ∧ l * (x1 - (l * l - x1 - x2)) - y1 + y3 = 0) := by
    intro h
    refine nl ?_
    rw [opp_eq h]
    exact (neg_neg' _).symm
  have nF : ¬ (m * m - x3 - x2 = x1 ∧ m * (x3 - (m * m - x3 - x2)) - y3 + y1 = 0) := by
    intro h
    refine nr ?_
    rw [opp_eq h]
    exact (neg_neg' _).symm
  have hs := lam_slope G onD h3 nD
  have ht := lam_slope G onF h1 nF
  rw [add_of G onD h3 nD hs, add_of G onF h1 nF ht, third_symm hs, third_symm ht]
  generalize E.lam (l * l - x1 - x2) _ x3 y3 = s at hs
  generalize E.lam (m * m - x3 - x2) _ x1 y1 = t at ht
  by_cases hlm : l = m
  · subst hlm
    have hR := keyR hl (slope_symm hm)
    have e : (x1 - x3) * (x1 + x2 + x3 - l * l) = 0 := by clear hs ht nD nF nl nr onD onF n12 n32 h1 h2 h3 hl hm el em; grobner
    have hy1 := mv1 hl.1
    have hy3 := mv1 hm.1
    rcases G.hz _ _ e with h | h
    · have hx : x1 = x3 := eq_of_sub h
      have hy : y1 = y3 := by rw [hy1, hy3, hx]
      subst hx
      subst hy
      have := slope_uniq G.hz nD hs ht
      rw [this]
    · refine absurd ⟨?_, ?_⟩ nD
      · clear hs ht nD nF nl nr onD onF n12 n32 h1 h2 h3 hl hm el em hR e hy1 hy3; grobner
      · have e2 : l * l - x1 - x2 = x3 := by clear hs ht nD nF nl nr onD onF n12 n32 h1 h2 h3 hl hm el em hR e hy1 hy3; grobner
        rw [e2, hy1, hy3]
        clear hs ht nD nF nl nr onD onF n12 n32 h1 h2 h3 hl hm el em hR e hy1 hy3 h e2
        grobner
  · have k1 := key G.hz hlm hl (slope_symm hm) hs nD
    have k2 := key G.hz (fun h => hlm h.symm) hm (slope_symm hl) ht nF
    have hk : (l - m) * (s + l - (t + m)) = 0 := by clear hs ht nD nF nl nr onD onF n12 n32 h1 h2 h3 hl hm el em; grobner
    have hk2 : s = t + m - l := by
      rcases G.hz _ _ hk with h | h
      · exact absurd (eq_of_sub h) hlm
      · clear hs ht nD nF nl nr onD onF n12 n32 h1 h2 h3 hl hm el em hk k1 k2; grobner
    have hy1 := mv1 hl.1
    have hy3 := mv1 hm.1
    have hx : x3 = x1 + (m - l) * (t + m) := by rw [k2]; clear hs ht nD nF nl nr onD onF n12 n32 h1 h2 h3 hl hm el em hk k1 k2; grobner
    clear hs ht nD nF nl nr onD onF n12 n32 h1 h2 h3 hl hm el em hk k1 k2
    unfold third
    have ex : s * s - x3 - (l * l - x1 - x2) = t * t - x1 - (m * m - x3 - x2) := by
      clear hy1 hy3
      subst hk2
      subst hx
      grobner
    rw [ex]
    have ey : s * (x3 - (t * t - x1 - (m * m - x3 - x2))) - y3 = t * (x1 - (t * t - x1 - (m * m - x3 - x2))) - y1 := by
      clear ex
      subst hy1
      subst hy3
      subst hk2
      subst hx
      grobner
    rw [ey]

/-- However sums are put together, they are the same. -/
theorem assoc (G : Good E) {p q r : P n} (hp : E.on p) (hq : E.on q) (hr : E.on r) : E.add (E.add p q) r = E.add p (E.add q r) := by
  have hpq := on_add G hp hq
  have hqr := on_add G hq hr
  rcases p with _ | ⟨x1, y1⟩
  · rw [none_add, none_add]
  rcases q with _ | ⟨x2, y2⟩
  · rw [none_add, add_none]
  rcases r with _ | ⟨x3, y3⟩
  · rw [add_none, add_none]
  by_cases n12 : x1 = x2 ∧ y1 + y2 = 0
  · rw [add_opp E n12, none_add, opp_eq n12]
    exact (fore G hp hr).symm
  by_cases n32 : x3 = x2 ∧ y3 + y2 = 0
  · rw [add_opp E (opp_symm n32), add_none, opp_eq n32, add_comm' G (on_add G hp (on_neg hr)) hr, add_comm' G hp (on_neg hr)]
    exact fore G hr hp
  by_cases nl : E.add (some (x1, y1)) (some (x2, y2)) = neg (some (x3, y3))
  · have h := rot G hp hq
    rw [nl, neg_neg'] at h
    rw [nl, h, add_neg, add_comm' G (on_neg hr) hr, add_neg]
  by_cases nr : E.add (some (x3, y3)) (some (x2, y2)) = neg (some (x1, y1))
  · have h := rot G hr hq
    rw [nr, neg_neg'] at h
    rw [add_comm' G hq hr, nr, add_neg, add_comm' G hp hq, h, add_comm' G (on_neg hr) hr, add_neg]
  rw [two_ways G hp hq hr n12 n32 nl nr, add_comm' G (on_add G hr hq) hp, add_comm' G hr hq]
end law


/-- No more things than there is room for. -/
theorem php : ∀ (b a : Nat) (f : Nat → Nat), (∀ i, i < a → f i < b) → (∀ i j, i < a → j < a → f i = f j → i = j) → a ≤ b := by
  intro b
  induction b with
  | zero =>
    intro a f h _
    rcases Nat.eq_zero_or_pos a with h0 | h0
    · omega
    · have := h 0 h0; omega
  | succ b ih =>
    intro a f h inj
    rcases a with _ | a
    · omega
    · have hv := h a (by omega)
      have := ih a (fun i => if f i = b then f a else f i) (by
        intro i hi
        have h1 := h i (by omega)
        by_cases e : f i = b
        · rw [if_pos e]
          have : f a ≠ b := fun e2 => by have := inj i a (by omega) (by omega) (by rw [e, e2]); omega
          omega
        · rw [if_neg e]; omega) (by
        intro i j hi hj e
        have ha : ∀ k, k < a → f k ≠ f a := fun k hk e2 => by have := inj k a (by omega) (by omega) e2; omega
        have e : (if f i = b then f a else f i) = (if f j = b then f a else f j) := e
        by_cases e1 : f i = b <;> by_cases e2 : f j = b
        · exact inj i j (by omega) (by omega) (by rw [e1, e2])
        · rw [if_pos e1, if_neg e2] at e; exact absurd e.symm (ha j hj)
        · rw [if_neg e1, if_pos e2] at e; exact absurd e (ha i hi)
        · rw [if_neg e1, if_neg e2] at e; exact inj i j (by omega) (by omega) e)
      omega

/-- Sums in which the order is nothing. -/
structure Ab (α : Type) where
  op : α → α → α
  o : α
  ng : α → α
  comm : ∀ p q, op p q = op q p
  assoc : ∀ p q r, op (op p q) r = op p (op q r)
  ido : ∀ p, op o p = p
  ngo : ∀ p, op p (ng p) = o

namespace Ab
variable {α : Type} (A : Ab α)

theorem oid (p : α) : A.op p A.o = p := by rw [A.comm, A.ido]

theorem back (p q : α) : A.op (A.op p q) (A.ng q) = p := by rw [A.assoc, A.ngo, A.oid]

theorem cancel {p q r : α} (h : A.op p r = A.op q r) : p = q := by
  rw [← A.back p r, h, A.back]

def mul : Nat → α → α
  | 0, _ => A.o
  | k + 1, p => A.op (mul k p) p

theorem mul_succ (k : Nat) (p : α) : A.mul (k + 1) p = A.op (A.mul k p) p := rfl

theorem mul_add (i k : Nat) (p : α) : A.mul (i + k) p = A.op (A.mul i p) (A.mul k p) := by
  induction k with
  | zero => show A.mul i p = A.op (A.mul i p) A.o; rw [A.oid]
  | succ k ih => show A.op (A.mul (i + k) p) p = A.op (A.mul i p) (A.op (A.mul k p) p); rw [ih, A.assoc]

theorem mul_o (k : Nat) : A.mul k A.o = A.o := by
  induction k with
  | zero => rfl
  | succ k ih => show A.op (A.mul k A.o) A.o = A.o; rw [A.oid, ih]

theorem mul_op (k : Nat) (p q : α) : A.mul k (A.op p q) = A.op (A.mul k p) (A.mul k q) := by
  induction k with
  | zero => exact (A.oid _).symm
  | succ k ih =>
    show A.op (A.mul k (A.op p q)) (A.op p q) = A.op (A.op (A.mul k p) p) (A.op (A.mul k q) q)
    rw [ih, A.assoc, A.assoc, ← A.assoc (A.mul k q), A.comm (A.mul k q) p, A.assoc p]

theorem mul_mul (i k : Nat) (p : α) : A.mul (i * k) p = A.mul i (A.mul k p) := by
  induction i with
  | zero => rw [Nat.zero_mul]; rfl
  | succ i ih => rw [Nat.succ_mul, mul_add, ih]; rfl

theorem mul_one (p : α) : A.mul 1 p = p := A.ido p

/-- What makes o by two numbers makes it by what measures both. -/
theorem mul_gcd (p : α) (i k : Nat) : A.mul i p = A.o → A.mul k p = A.o → A.mul (Nat.gcd i k) p = A.o := by
  refine Nat.gcd.induction i k ?_ ?_
  · intro k _ h
    rwa [Nat.gcd_zero_left]
  · intro i k hi ih h1 h2
    rw [Nat.gcd_rec]
    refine ih ?_ h1
    have e := Nat.div_add_mod k i
    rw [← e, mul_add, Nat.mul_comm, mul_mul, h1, mul_o, A.ido] at h2
    exact h2

variable {A}

theorem inj_of {g : α} {N : Nat} (hN : ∀ d, d ∣ N → d = 1 ∨ d = N) (hg : A.mul N g = A.o) (hne : g ≠ A.o) {i j : Nat} (hj : j < N) (hij : i ≤ j) (h : A.mul i g = A.mul j g) : i = j := by
  have e : A.mul (j - i) g = A.o := by
    refine A.cancel (r := A.mul i g) ?_
    rw [← mul_add, A.ido, Nat.sub_add_cancel hij, h]
  have e2 := A.mul_gcd g N (j - i) hg e
  rcases hN _ (Nat.gcd_dvd_left N (j - i)) with h1 | h1
  · rw [h1, mul_one] at e2; exact absurd e2 hne
  · have := Nat.gcd_dvd_right N (j - i)
    rw [h1] at this
    rcases Nat.eq_zero_or_pos (j - i) with h0 | h0
    · omega
    · have := Nat.le_of_dvd h0 this; omega

/-- Where fewer than three times as many things are as one of them, by a prime number of times, makes, and none but o is its own like, that number of times makes o of all. -/
theorem all_of {g : α} {N M : Nat} (hN : ∀ d, d ∣ N → d = 1 ∨ d = N) (hodd : N % 2 = 1) (hg : A.mul N g = A.o) (hne : g ≠ A.o) (code : α → Nat) (hc : ∀ p, code p < M) (hi : ∀ p q, code p = code q → p = q) (hM : M < 3 * N)
    (no2 : ∀ p, A.op p p = A.o → p = A.o) (x : α) : A.mul N x = A.o := by
  have inj : ∀ {i j : Nat}, i < N → j < N → A.mul i g = A.mul j g → i = j := by
    intro i j h1 h2 h
    rcases Nat.le_total i j with h3 | h3
    · exact inj_of hN hg hne h2 h3 h
    · exact (inj_of hN hg hne h1 h3 h.symm).symm
  have hmul : ∀ i, A.mul N (A.mul i g) = A.o := by
    intro i
    rw [← mul_mul, Nat.mul_comm, mul_mul, hg, mul_o]
  -- what is a multiple where its double is
  have half : ∀ i y, A.op y y = A.mul i g → ∃ k, y = A.mul k g := by
    intro i y h
    have h2 : ∃ k, A.op y y = A.mul (k + k) g := by
      by_cases he : i % 2 = 0
      · exact ⟨i / 2, by rw [h]; congr 1; omega⟩
      · refine ⟨(i + N) / 2, ?_⟩
        have : (i + N) / 2 + (i + N) / 2 = i + N := by omega
        rw [this, mul_add, hg, A.oid, h]
    obtain ⟨k, h2⟩ := h2
    refine ⟨k, ?_⟩
    have e := no2 (A.op y (A.ng (A.mul k g))) (by
      rw [A.assoc, ← A.assoc (A.ng (A.mul k g)), A.comm (A.ng (A.mul k g)) y, A.assoc y, ← A.assoc, h2, mul_add]
      rw [A.assoc, ← A.assoc (A.mul k g) (A.ng (A.mul k g)), A.ngo, A.ido, A.ngo])
    refine A.cancel (r := A.ng (A.mul k g)) ?_
    rw [e, A.ngo]
  -- a difference of multiples is one
  have diff : ∀ {y : α} {i j : Nat}, j < N → A.op y (A.mul j g) = A.mul i g → ∃ k, y = A.mul k g := by
    intro y i j hj h
    refine ⟨i + (N - j), ?_⟩
    rw [mul_add, ← h, A.assoc, ← mul_add, show j + (N - j) = N by omega, hg, A.oid]
  have mem : ∃ k, x = A.mul k g := by
    refine Classical.byContradiction fun hno => ?_
    have hno2 : ¬ ∃ k, A.op x x = A.mul k g := fun ⟨k, hk⟩ => hno (half k x hk)
    have hNpos : 0 < N := by omega
    have sep : ∀ {c c' i i' : Nat}, c' < 3 → i < N → i' < N → c ≤ c' → A.op (A.mul c x) (A.mul i g) = A.op (A.mul c' x) (A.mul i' g) → c = c' ∧ i = i' := by
      intro c c' i i' hc' hii hii' hcc h
      have e : A.op (A.mul (c' - c) x) (A.mul i' g) = A.mul i g := by
        refine A.cancel (r := A.mul c x) ?_
        rw [A.assoc, A.comm (A.mul i' g), ← A.assoc, ← mul_add, Nat.sub_add_cancel hcc, ← h, A.comm]
      obtain ⟨k, hk⟩ := diff hii' e
      have hcd : c' - c = 0 ∨ c' - c = 1 ∨ c' - c = 2 := by omega
      rcases hcd with h0 | h0 | h0
      · have hcc : c = c' := by omega
        subst hcc
        rw [h0] at e
        have e : A.op A.o (A.mul i' g) = A.mul i g := e
        rw [A.ido] at e
        exact ⟨rfl, (inj hii' hii e).symm⟩
      · rw [h0, mul_one] at hk; exact absurd ⟨k, hk⟩ hno
      · rw [h0] at hk
        have hk : A.op (A.op A.o x) x = A.mul k g := hk
        rw [A.ido] at hk
        exact absurd ⟨k, hk⟩ hno2
    have := php M (3 * N) (fun t => code (A.op (A.mul (t / N) x) (A.mul (t % N) g))) (fun i _ => hc _) (by
      intro i j h1 h2 h
      have h := hi _ _ h
      have a1 : i / N < 3 := by rw [Nat.div_lt_iff_lt_mul hNpos]; omega
      have a2 : j / N < 3 := by rw [Nat.div_lt_iff_lt_mul hNpos]; omega
      have b1 := Nat.mod_lt i hNpos
      have b2 := Nat.mod_lt j hNpos
      have r : i / N = j / N ∧ i % N = j % N := by
        rcases Nat.le_total (i / N) (j / N) with h3 | h3
        · exact sep a2 b1 b2 h3 h
        · have := sep a1 b2 b1 h3 h.symm
          exact ⟨this.1.symm, this.2.symm⟩
      rw [← Nat.div_add_mod i N, ← Nat.div_add_mod j N, r.1, r.2])
    omega
  obtain ⟨k, hk⟩ := mem
  rw [hk]
  exact hmul k
end Ab

/-- A number that only 1 and itself measure. -/
def Pr (q : Nat) : Prop := q ≠ 1 ∧ ∀ d, d ∣ q → d = 1 ∨ d = q

def prodl : List Nat → Nat
  | [] => 1
  | q :: l => q * prodl l

theorem pr_in : ∀ (l : List Nat) (c : Nat), (∀ q, q ∈ l → Pr q) → c ∣ prodl l → c ≠ 1 → ∃ q, q ∈ l ∧ q ∣ c
  | [], c, _, h, h1 => absurd (Nat.eq_one_of_dvd_one h) h1
  | q :: l, c, hp, h, h1 => by
    rcases (hp q (List.mem_cons_self)).2 _ (Nat.gcd_dvd_right c q) with h2 | h2
    · have h3 : c ∣ prodl l := Nat.Coprime.dvd_of_dvd_mul_left h2 h
      obtain ⟨r, hr, hr2⟩ := pr_in l c (fun r hr => hp r (List.mem_cons_of_mem _ hr)) h3 h1
      exact ⟨r, List.mem_cons_of_mem _ hr, hr2⟩
    · exact ⟨q, List.mem_cons_self, by rw [← h2]; exact Nat.gcd_dvd_left c q⟩

/-- What measures a number, and isn't it, measures a part of it. -/
theorem part_of {l : List Nat} {N d : Nat} (hl : prodl l = N) (hp : ∀ q, q ∈ l → Pr q) (h0 : 0 < N) (hd : d ∣ N) (hne : d ≠ N) : ∃ q, q ∈ l ∧ d ∣ N / q := by
  obtain ⟨c, hc⟩ := hd
  have hc1 : c ≠ 1 := fun h => hne (by rw [hc, h, Nat.mul_one])
  obtain ⟨q, hq, k, hk⟩ := pr_in l c hp ⟨d, by rw [hl, hc, Nat.mul_comm]⟩ hc1
  refine ⟨q, hq, k, ?_⟩
  have hq0 : 0 < q := by
    rcases Nat.eq_zero_or_pos q with h | h
    · subst h; rw [Nat.zero_mul] at hk; subst hk; rw [Nat.mul_zero] at hc; omega
    · exact h
  rw [hc, hk, Nat.mul_left_comm, Nat.mul_div_cancel_left _ hq0]

section power
variable {n : Nat} [NeZero n]

theorem val_one (hn : 1 < n) : (1 : Fin n).val = 1 := by
  show 1 % n = 1
  exact Nat.mod_eq_of_lt hn

def pf (g : Fin n) : Nat → Fin n
  | 0 => 1
  | k + 1 => pf g k * g

theorem mul_one' (x : Fin n) : x * 1 = x := by grobner
theorem one_mul' (x : Fin n) : 1 * x = x := by grobner
theorem mul_assoc' (x y z : Fin n) : x * y * z = x * (y * z) := by grobner
theorem mul_comm' (x y : Fin n) : x * y = y * x := by grobner

theorem pf_add (g : Fin n) (i k : Nat) : pf g (i + k) = pf g i * pf g k := by
  induction k with
  | zero => exact (mul_one' _).symm
  | succ k ih => show pf g (i + k) * g = pf g i * (pf g k * g); rw [ih, mul_assoc']

theorem pf_one (k : Nat) : pf (1 : Fin n) k = 1 := by
  induction k with
  | zero => rfl
  | succ k ih => show pf 1 k * 1 = 1; rw [ih, mul_one']

theorem pf_mul (g : Fin n) (i k : Nat) : pf g (i * k) = pf (pf g i) k := by
  induction k with
  | zero => rfl
  | succ k ih => rw [Nat.mul_succ, pf_add, ih]; rfl

theorem pf_gcd (g : Fin n) (i k : Nat) : pf g i = 1 → pf g k = 1 → pf g (Nat.gcd i k) = 1 := by
  refine Nat.gcd.induction i k ?_ ?_
  · intro k _ h
    rwa [Nat.gcd_zero_left]
  · intro i k hi ih h1 h2
    rw [Nat.gcd_rec]
    refine ih ?_ h1
    have e := Nat.div_add_mod k i
    rw [← e, pf_add, pf_mul, h1, pf_one, one_mul'] at h2
    exact h2

theorem pf_dvd (g : Fin n) {i k : Nat} (h : i ∣ k) (h1 : pf g i = 1) : pf g k = 1 := by
  obtain ⟨c, rfl⟩ := h
  rw [pf_mul, h1, pf_one]

/-- A number whose powers are all others. -/
structure Root (g : Fin n) : Prop where
  one : pf g (n - 1) = 1
  all : ∀ x : Fin n, x ≠ 0 → ∃ i, x = pf g i

theorem root_of {g : Fin n} {l : List Nat} (hn : 1 < n) (hl : prodl l = n - 1) (hp : ∀ q, q ∈ l → Pr q) (h1 : pf g (n - 1) = 1) (hq : ∀ q, q ∈ l → pf g ((n - 1) / q) ≠ 1) : Root g := by
  refine ⟨h1, ?_⟩
  have z1 : (0 : Fin n) ≠ 1 := by
    intro h
    have h : (0 : Fin n).val = (1 : Fin n).val := congrArg Fin.val h
    rw [Fin.val_zero, val_one hn] at h
    omega
  have big : ∀ e, 0 < e → e < n - 1 → pf g e ≠ 1 := by
    intro e h0 h2 h3
    have h4 := pf_gcd g (n - 1) e h1 h3
    have hle := Nat.le_of_dvd h0 (Nat.gcd_dvd_right (n - 1) e)
    obtain ⟨q, hql, hqd⟩ := part_of hl hp (by omega) (Nat.gcd_dvd_left (n - 1) e) (by omega)
    exact hq q hql (pf_dvd g hqd h4)
  have nz : ∀ i, i < n → pf g i ≠ 0 := by
    intro i hi h
    have e : pf g (i + (n - 1 - i)) = 1 ∨ i = n - 1 + 1 := by
      left
      rw [show i + (n - 1 - i) = n - 1 by omega, h1]
    rcases e with e | e
    · rw [pf_add, h] at e
      exact z1 (by rw [← e]; grobner)
    · omega
  have inj : ∀ i j, i < j → j < n → 0 < i → pf g i ≠ pf g j := by
    intro i j h2 h3 h0 h
    refine big (j - i) (by omega) (by omega) ?_
    have e1 : pf g i * pf g (n - 1 - i) = 1 := by rw [← pf_add, show i + (n - 1 - i) = n - 1 by omega, h1]
    have e2 : pf g j = pf g (j - i) * pf g i := by rw [← pf_add, show j - i + i = j by omega]
    rw [e2] at h
    have e3 : pf g i * pf g (n - 1 - i) = pf g (j - i) * (pf g i * pf g (n - 1 - i)) := by rw [← mul_assoc', ← h]
    rw [e1, mul_one'] at e3
    exact e3.symm
  intro x hx
  refine Classical.byContradiction fun hno => ?_
  have hx0 : x.val ≠ 0 := fun h => hx (Fin.ext (by rw [h, Fin.val_zero]))
  have hno2 : ∀ i, (pf g i).val ≠ x.val := fun i h => hno ⟨i, Fin.ext h.symm⟩
  have nz2 : ∀ i, i < n → (pf g i).val ≠ 0 := fun i hi h => nz i hi (Fin.ext (by rw [h, Fin.val_zero]))
  have := php (n - 2) (n - 1) (fun i => if (pf g (i + 1)).val = n - 1 then x.val - 1 else (pf g (i + 1)).val - 1) (by
    intro i hi
    have a1 := nz2 (i + 1) (by omega)
    have a2 := (pf g (i + 1)).isLt
    have a3 := hno2 (i + 1)
    have a4 := x.isLt
    show (if (pf g (i + 1)).val = n - 1 then x.val - 1 else (pf g (i + 1)).val - 1) < n - 2
    split <;> omega) (by
    intro i j hi hj h
    have h : (if (pf g (i + 1)).val = n - 1 then x.val - 1 else (pf g (i + 1)).val - 1) = (if (pf g (j + 1)).val = n - 1 then x.val - 1 else (pf g (j + 1)).val - 1) := h
    have a1 := nz2 (i + 1) (by omega)
    have b1 := nz2 (j + 1) (by omega)
    have a3 := hno2 (i + 1)
    have b3 := hno2 (j + 1)
    have e : (pf g (i + 1)).val = (pf g (j + 1)).val := by
      split at h <;> split at h <;> omega
    have e : pf g (i + 1) = pf g (j + 1) := Fin.ext e
    rcases Nat.lt_trichotomy i j with h3 | h3 | h3
    · exact absurd e (inj _ _ (by omega) (by omega) (by omega))
    · exact h3
    · exact absurd e.symm (inj _ _ (by omega) (by omega) (by omega)))
  omega

theorem root_inv {g : Fin n} (h : Root g) {x : Fin n} (hx : x ≠ 0) : pf x (n - 1) = 1 := by
  obtain ⟨i, rfl⟩ := h.all x hx
  rw [← pf_mul, Nat.mul_comm, pf_mul, h.one, pf_one]

theorem root_inv2 {g : Fin n} (h : Root g) (hn : 1 < n) {x : Fin n} (hx : x ≠ 0) : x * pf x (n - 2) = 1 := by
  have := root_inv h hx
  rw [show n - 1 = n - 2 + 1 by omega] at this
  rw [mul_comm']
  exact this

theorem root_noz {g : Fin n} (h : Root g) (hn : 1 < n) (x y : Fin n) (e : x * y = 0) : x = 0 ∨ y = 0 := by
  by_cases hx : x = 0
  · exact Or.inl hx
  · have hi := root_inv2 h hn hx
    generalize pf x (n - 2) = i at hi
    right
    have : y = x * i * y := by rw [hi, one_mul']
    rw [this, mul_comm' x i, mul_assoc', e]
    clear this hi e hx h
    grobner

theorem root_pr {g : Fin n} (h : Root g) (hn : 1 < n) : Pr n := by
  refine ⟨by omega, fun d hd => ?_⟩
  have hle := Nat.le_of_dvd (by omega) hd
  rcases Nat.lt_or_ge d n with hlt | hge
  · left
    have hd0 : 0 < d := Nat.pos_of_dvd_of_pos hd (by omega)
    have hx : (⟨d, hlt⟩ : Fin n) ≠ 0 := fun e => by have := congrArg Fin.val e; rw [Fin.val_zero] at this; have this : d = 0 := this; omega
    have hi := root_inv2 h hn hx
    generalize pf (⟨d, hlt⟩ : Fin n) (n - 2) = i at hi
    have hi := congrArg Fin.val hi
    rw [Fin.val_mul, val_one hn] at hi
    have hi : d * i.val % n = 1 := hi
    have h2 : d ∣ d * i.val % n := (Nat.dvd_mod_iff hd).mpr ⟨i.val, rfl⟩
    rw [hi] at h2
    exact Nat.eq_one_of_dvd_one h2
  · right; omega
end power

/-- A power, by the bits of its number. -/
def pw (m : Nat) : Nat → Nat → Nat → Nat
  | 0, _, _ => 1 % m
  | f + 1, b, e => if e = 0 then 1 % m else if e % 2 = 1 then b * pw m f (b * b % m) (e / 2) % m else pw m f (b * b % m) (e / 2)

section number
variable {n : Nat} [NeZero n]

/-- A number as one of the n. -/
def F (x : Nat) : Fin n := ⟨x % n, Nat.mod_lt _ (Nat.pos_of_ne_zero (NeZero.ne n))⟩

theorem F_mod (x : Nat) : (F (x % n) : Fin n) = F x := Fin.ext (Nat.mod_mod _ _)
theorem F_mul (x y : Nat) : (F (x * y) : Fin n) = F x * F y := Fin.ext (by rw [Fin.val_mul]; exact Nat.mul_mod _ _ _)
theorem F_add (x y : Nat) : (F (x + y) : Fin n) = F x + F y := Fin.ext (by rw [Fin.val_add]; exact Nat.add_mod _ _ _)
theorem F_val (x : Fin n) : F x.val = x := Fin.ext (Nat.mod_eq_of_lt x.isLt)

theorem pf_sq (x : Fin n) (k : Nat) : pf (x * x) k = pf x (2 * k) := by
  rw [pf_mul]
  congr 1
  show x * x = 1 * x * x
  rw [one_mul']

theorem pw_pf : ∀ (f b e : Nat), e < 2 ^ f → pw n f b e = (pf (F b : Fin n) e).val
  | 0, b, e, h => by
    have : e = 0 := by omega
    subst this
    rfl
  | f + 1, b, e, h => by
    unfold pw
    have hd : e / 2 < 2 ^ f := by rw [Nat.pow_succ] at h; omega
    have ih := pw_pf f (b * b % n) (e / 2) hd
    rw [F_mod, F_mul, pf_sq] at ih
    by_cases h0 : e = 0
    · rw [if_pos h0, h0]; rfl
    · rw [if_neg h0]
      by_cases h1 : e % 2 = 1
      · rw [if_pos h1, ih]
        have e1 : e = 2 * (e / 2) + 1 := by omega
        generalize e / 2 = k at e1
        subst e1
        show _ = (pf (F b) (2 * k) * F b).val
        rw [Fin.val_mul, Nat.mul_comm]
        show (pf (F b : Fin n) (2 * k)).val * b % n = (pf (F b : Fin n) (2 * k)).val * (b % n) % n
        rw [Nat.mul_mod _ (b % n), Nat.mod_mod, ← Nat.mul_mod]
      · rw [if_neg h1, ih]
        congr 2
        omega
end number

/-- Whether a row (number, root, the parts of the number less one) holds, those before it known. -/
def rowOk (ps : List Nat) (r : Nat × Nat × List Nat) : Bool :=
  decide (1 < r.1) && decide (r.1 < 2 ^ 256) && decide (prodl r.2.2 = r.1 - 1) && r.2.2.all (fun q => ps.contains q) && decide (pw r.1 256 r.2.1 (r.1 - 1) = 1) && r.2.2.all (fun q => decide (pw r.1 256 r.2.1 ((r.1 - 1) / q) ≠ 1))

theorem row_root {ps : List Nat} {n g : Nat} {l : List Nat} [NeZero n] (hp : ∀ q, q ∈ ps → Pr q) (h : rowOk ps (n, g, l) = true) : 1 < n ∧ Root (F g : Fin n) := by
  unfold rowOk at h
  simp only [Bool.and_eq_true, decide_eq_true_eq, List.all_eq_true] at h
  obtain ⟨⟨⟨⟨⟨h1, h2⟩, h3⟩, h4⟩, h5⟩, h6⟩ := h
  have h5 : pw n 256 g (n - 1) = 1 := h5
  have h1 : 1 < n := h1
  have h2 : n < 2 ^ 256 := h2
  refine ⟨h1, root_of (l := l) h1 h3 (fun q hq => hp q (by have := h4 q hq; exact List.contains_iff_mem.mp this)) ?_ ?_⟩
  · apply Fin.ext
    exact (pw_pf (n := n) 256 g (n - 1) (Nat.lt_of_le_of_lt (Nat.sub_le _ _) h2)).symm.trans (h5.trans (val_one h1).symm)
  · intro q hq e
    have h6 : pw n 256 g ((n - 1) / q) ≠ 1 := h6 q hq
    refine h6 ?_
    have e2 := pw_pf (n := n) 256 g ((n - 1) / q) (Nat.lt_of_le_of_lt (Nat.div_le_self _ _) (Nat.lt_of_le_of_lt (Nat.sub_le _ _) h2))
    rw [e2]
    exact (congrArg Fin.val e).trans (val_one h1)

def tabOk : List Nat → List (Nat × Nat × List Nat) → Bool
  | _, [] => true
  | ps, r :: t => rowOk ps r && tabOk (r.1 :: ps) t

theorem row_pr {ps : List Nat} {r : Nat × Nat × List Nat} (hp : ∀ q, q ∈ ps → Pr q) (h : rowOk ps r = true) : Pr r.1 := by
  obtain ⟨n, g, l⟩ := r
  show Pr n
  have h1 : 1 < n := by
    unfold rowOk at h
    simp only [Bool.and_eq_true, decide_eq_true_eq] at h
    exact h.1.1.1.1.1
  haveI : NeZero n := ⟨by omega⟩
  exact root_pr (row_root hp h).2 h1

theorem tab_pr : ∀ (t : List (Nat × Nat × List Nat)) (ps : List Nat), (∀ q, q ∈ ps → Pr q) → tabOk ps t = true → ∀ r, r ∈ t → Pr r.1 ∧ ∃ ps', (∀ q, q ∈ ps' → Pr q) ∧ rowOk ps' r = true
  | [], _, _, _, r, hr => absurd hr List.not_mem_nil
  | r0 :: t, ps, hp, h, r, hr => by
    have h : (rowOk ps r0 && tabOk (r0.1 :: ps) t) = true := h
    rw [Bool.and_eq_true] at h
    have h0 := row_pr hp h.1
    rcases List.mem_cons.mp hr with e | e
    · rw [e]; exact ⟨h0, ps, hp, h.1⟩
    · refine tab_pr t (r0.1 :: ps) ?_ h.2 r e
      intro q hq
      rcases List.mem_cons.mp hq with e | e
      · rw [e]; exact h0
      · exact hp q e

theorem pr_two : Pr 2 := by
  refine ⟨by decide, fun d hd => ?_⟩
  have := Nat.le_of_dvd (by decide) hd
  have h0 : d ≠ 0 := by rintro rfl; omega
  omega

/-- Rows for the field's modulus and the number of points. -/
def tab : List (Nat × Nat × List Nat) := [
  (257, 3, [2, 2, 2, 2, 2, 2, 2, 2]),
  (3, 2, [2]),
  (5, 2, [2, 2]),
  (641, 3, [2, 2, 2, 2, 2, 2, 2, 5]),
  (65537, 3, [2, 2, 2, 2, 2, 2, 2, 2, 2, 2, 2, 2, 2, 2, 2, 2]),
  (11, 2, [2, 5]),
  (727, 5, [2, 3, 11, 11]),
  (17449, 14, [2, 2, 2, 3, 727]),
  (6700417, 5, [2, 2, 2, 2, 2, 2, 2, 3, 17449]),
  (241, 7, [2, 2, 2, 2, 3, 5]),
  (2411, 6, [2, 5, 241]),
  (17, 3, [2, 2, 2, 2]),
  (7, 3, [2, 3]),
  (197, 2, [2, 2, 7, 7]),
  (43, 3, [2, 3, 7]),
  (173, 2, [2, 2, 43]),
  (13, 2, [2, 2, 3]),
  (53, 2, [2, 2, 13]),
  (919, 7, [2, 3, 3, 3, 17]),
  (3677, 2, [2, 2, 919]),
  (66417393611, 6, [2, 5, 53, 173, 197, 3677]),
  (11290956913871, 13, [2, 5, 17, 66417393611]),
  (181, 2, [2, 2, 3, 3, 5]),
  (1087, 3, [2, 3, 181]),
  (4349, 2, [2, 2, 1087]),
  (78283, 3, [2, 3, 3, 4349]),
  (23, 5, [2, 11]),
  (757, 2, [2, 2, 3, 3, 3, 7]),
  (18169, 11, [2, 2, 2, 3, 757]),
  (313, 10, [2, 2, 2, 3, 13]),
  (704251, 2, [2, 3, 3, 5, 5, 5, 313]),
  (46076956964474543, 5, [2, 23, 18169, 78283, 704251]),
  (107, 2, [2, 53]),
  (157, 5, [2, 2, 3, 13]),
  (3769, 7, [2, 2, 2, 3, 157]),
  (204061199, 11, [2, 11, 23, 107, 3769]),
  (34282281433, 17, [2, 2, 2, 3, 7, 204061199]),
  (774023187263532362759620327192479577272145303, 3, [2, 3, 3, 2411, 34282281433, 11290956913871, 46076956964474543]),
  (835945042244614951780389953367877943453916927241, 11, [2, 2, 2, 3, 3, 3, 5, 774023187263532362759620327192479577272145303]),
  (1531, 2, [2, 3, 3, 5, 17]),
  (661, 2, [2, 2, 3, 5, 11]),
  (490463, 14, [2, 7, 53, 661]),
  (115792089210356248762697446949407573530086143415290314195533631308867097853951, 6, [2, 3, 5, 5, 17, 257, 641, 1531, 65537, 490463, 6700417, 835945042244614951780389953367877943453916927241]),
  (131, 2, [2, 5, 13]),
  (71, 7, [2, 5, 7]),
  (37, 2, [2, 2, 3, 3]),
  (9547, 2, [2, 3, 37, 43]),
  (38189, 2, [2, 2, 9547]),
  (3407, 5, [2, 13, 131]),
  (263, 5, [2, 131]),
  (126241, 7, [2, 2, 2, 2, 2, 3, 5, 263]),
  (19, 2, [2, 3, 3]),
  (337, 10, [2, 2, 2, 2, 3, 7]),
  (31, 3, [2, 3, 5]),
  (104471, 11, [2, 5, 31, 337]),
  (3969899, 2, [2, 19, 104471]),
  (1002328039319, 19, [2, 126241, 3969899]),
  (97, 5, [2, 2, 2, 2, 2, 3]),
  (29, 2, [2, 2, 7]),
  (16879, 3, [2, 3, 29, 97]),
  (1297, 10, [2, 2, 2, 2, 3, 3, 3, 3]),
  (41, 6, [2, 2, 2, 5]),
  (155317, 5, [2, 2, 3, 7, 43, 43]),
  (191039911, 3, [2, 3, 5, 41, 155317]),
  (151, 6, [2, 3, 5, 5]),
  (1511, 11, [2, 5, 151]),
  (3023, 5, [2, 1511]),
  (127, 3, [2, 3, 3, 7]),
  (208150935158385979, 2, [2, 3, 11, 43, 127, 3023, 191039911]),
  (2624747550333869278416773953, 7, [2, 2, 2, 2, 2, 2, 3, 3, 1297, 16879, 208150935158385979]),
  (373, 2, [2, 2, 3, 31]),
  (311, 17, [2, 5, 31]),
  (311245691, 2, [2, 5, 7, 17, 29, 29, 311]),
  (622491383, 5, [2, 311245691]),
  (1201, 11, [2, 2, 2, 2, 3, 5, 5]),
  (229, 6, [2, 2, 3, 19]),
  (9350987, 2, [2, 17, 229, 1201]),
  (187019741, 2, [2, 2, 5, 9350987]),
  (115792089210356248762697446949407573529996955224135760342422259061068512044369, 7, [2, 2, 2, 2, 3, 71, 131, 373, 3407, 17449, 38189, 187019741, 622491383, 1002328039319, 2624747550333869278416773953])]

theorem tab_ok : tabOk [2] tab = true := by decide +kernel

def pp : Nat := 115792089210356248762697446949407573530086143415290314195533631308867097853951
def nn : Nat := 115792089210356248762697446949407573529996955224135760342422259061068512044369
instance : NeZero pp := ⟨by decide +kernel⟩
instance : NeZero nn := ⟨by decide +kernel⟩

theorem two_only : ∀ q, q ∈ [2] → Pr q := by
  intro q hq
  have : q = 2 := List.mem_singleton.mp hq
  rw [this]
  exact pr_two

theorem pp_root : ∃ g : Fin pp, Root g := by
  obtain ⟨ps, hp, h⟩ := (tab_pr tab [2] two_only tab_ok (115792089210356248762697446949407573530086143415290314195533631308867097853951, 6, [2, 3, 5, 5, 17, 257, 641, 1531, 65537, 490463, 6700417, 835945042244614951780389953367877943453916927241]) (by decide +kernel)).2
  exact ⟨_, (row_root (n := pp) hp h).2⟩

theorem nn_pr : Pr nn := (tab_pr tab [2] two_only tab_ok (115792089210356248762697446949407573529996955224135760342422259061068512044369, 7, [2, 2, 2, 2, 3, 71, 131, 373, 3407, 17449, 38189, 187019741, 622491383, 1002328039319, 2624747550333869278416773953]) (by decide +kernel)).1

/-! P-256. -/
def bb : Nat := 41058363725152142129326129780047268409114441015993725554835256314039467401291
def gx : Nat := 48439561293906451759052585252797914202762949526041747995844080717082404635286
def gy : Nat := 36134250956749795798585127919587881956611106672985015071877198253568414405109

def E256 : Cur pp := { a := F (pp - 3), b := F bb, inv := fun x => pf x (pp - 2) }

theorem pp_big : 3 < pp := by decide +kernel

theorem F_pp : (F pp : Fin pp) = 0 := Fin.ext (Nat.mod_self pp)
theorem F_one : (F 1 : Fin pp) = 1 := rfl
theorem F_zero : (F 0 : Fin pp) = 0 := rfl
theorem F_three : (F 3 : Fin pp) = 3 := rfl
theorem F_two : (F 2 : Fin pp) = 2 := rfl

/-- Less. -/
def sb (x y : Nat) : Nat := (x + (pp - y % pp)) % pp
theorem F_sb (x y : Nat) : (F (sb x y) : Fin pp) = F x - F y := by
  have h1 : y % pp ≤ pp := Nat.le_of_lt (Nat.mod_lt _ (Nat.lt_trans (by decide) pp_big))
  have e : (F (pp - y % pp) : Fin pp) + F y = 0 := by
    rw [← F_mod y, ← F_add, Nat.sub_add_cancel h1, F_pp]
  unfold sb
  rw [F_mod, F_add]
  generalize (F (pp - y % pp) : Fin pp) = z at e
  generalize (F y : Fin pp) = v at e ⊢
  clear h1
  grobner
theorem F_p3 : (F (pp - 3) : Fin pp) = - 3 := by
  have e : (F (pp - 3) : Fin pp) + 3 = 0 := by
    rw [← F_three, ← F_add, Nat.sub_add_cancel (Nat.le_of_lt pp_big), F_pp]
  generalize (F (pp - 3) : Fin pp) = z at e ⊢
  grobner

/-- Products of numbers of three parts: of c0 + c1 r + c2 r r, where r r r = 3 r - b. -/
def tm (u v : Nat × Nat × Nat) : Nat × Nat × Nat :=
  let r3 := u.2.1 * v.2.2 + u.2.2 * v.2.1
  let r4 := u.2.2 * v.2.2
  ((u.1 * v.1 + (pp - bb) * r3) % pp, (u.1 * v.2.1 + u.2.1 * v.1 + 3 * r3 + (pp - bb) * r4) % pp, (u.1 * v.2.2 + u.2.1 * v.2.1 + u.2.2 * v.1 + 3 * r4) % pp)

def ev (u : Nat × Nat × Nat) (r : Fin pp) : Fin pp := F u.1 + F u.2.1 * r + F u.2.2 * (r * r)

theorem F_bb : (F (pp - bb) : Fin pp) = - F bb := by
  have e : (F (pp - bb) : Fin pp) + F bb = 0 := by
    rw [← F_add, Nat.sub_add_cancel (by decide +kernel), F_pp]
  generalize (F (pp - bb) : Fin pp) = z at e ⊢
  generalize (F bb : Fin pp) = v at e ⊢
  grobner

theorem ring_tm {n : Nat} [NeZero n] (a0 a1 a2 b0 b1 b2 b r : Fin n) (h : r * r * r = 3 * r - b) : (a0 * b0 + - b * (a1 * b2 + a2 * b1)) + (a0 * b1 + a1 * b0 + 3 * (a1 * b2 + a2 * b1) + - b * (a2 * b2)) * r + (a0 * b2 + a1 * b1 + a2 * b0 + 3 * (a2 * b2)) * (r * r) = (a0 + a1 * r + a2 * (r * r)) * (b0 + b1 * r + b2 * (r * r)) := by
  have : b = 3 * r - r * r * r := by grobner
  subst this
  clear h
  grobner

theorem tm_ev {r : Fin pp} (h : r * r * r = 3 * r - F bb) (u v : Nat × Nat × Nat) : ev (tm u v) r = ev u r * ev v r := by
  obtain ⟨a0, a1, a2⟩ := u
  obtain ⟨b0, b1, b2⟩ := v
  unfold tm ev
  dsimp only
  rw [F_mod, F_mod, F_mod]
  simp only [F_add, F_mul]
  rw [F_bb, F_three]
  exact ring_tm _ _ _ _ _ _ _ _ h

def tp : Nat → Nat × Nat × Nat → Nat → Nat × Nat × Nat
  | 0, _, _ => (1, 0, 0)
  | f + 1, u, e => if e = 0 then (1, 0, 0) else if e % 2 = 1 then tm u (tp f (tm u u) (e / 2)) else tp f (tm u u) (e / 2)

theorem ring_one {n : Nat} [NeZero n] (r : Fin n) : 1 + 0 * r + 0 * (r * r) = 1 := by grobner

theorem ev_one (r : Fin pp) : ev (1, 0, 0) r = 1 := by
  unfold ev
  dsimp only
  rw [F_one, F_zero]
  exact ring_one r

theorem tp_ev {r : Fin pp} (h : r * r * r = 3 * r - F bb) : ∀ (f : Nat) (u : Nat × Nat × Nat) (e : Nat), e < 2 ^ f → ev (tp f u e) r = pf (ev u r) e
  | 0, u, e, he => by
    have : e = 0 := by omega
    subst this
    exact ev_one r
  | f + 1, u, e, he => by
    unfold tp
    have hd : e / 2 < 2 ^ f := by rw [Nat.pow_succ] at he; omega
    have ih := tp_ev h f (tm u u) (e / 2) hd
    rw [tm_ev h, pf_sq] at ih
    by_cases h0 : e = 0
    · rw [if_pos h0, h0]; exact ev_one r
    · rw [if_neg h0]
      by_cases h1 : e % 2 = 1
      · rw [if_pos h1, tm_ev h, ih]
        have e1 : e = 2 * (e / 2) + 1 := by omega
        generalize e / 2 = k at e1
        subst e1
        exact mul_comm' _ _
      · rw [if_neg h1, ih]
        congr 1
        omega

def tq : Nat × Nat × Nat := tp 256 (0, 1, 0) pp
theorem tq_ok : tm (76626890310466861426869089647039036757962535851890885406097439786770458211455, 74462945259064871768191128030512052509059297803194871526163573358218695456204, 34768139465301476436978405170953382516735956999154666452188405812258086013549) (tq.1, tq.2.1 + (pp - 1), tq.2.2) = (1, 0, 0) := by decide +kernel

theorem no_root (r : Fin pp) : r * r * r + F (pp - 3) * r + F bb ≠ 0 := by
  intro h
  rw [F_p3] at h
  have h3 : r * r * r = 3 * r - F bb := by
    generalize (F bb : Fin pp) = v at h ⊢
    grobner
  obtain ⟨g, hg⟩ := pp_root
  have e1 : ev tq r = r := by
    unfold tq
    rw [tp_ev h3 256 _ pp (by decide +kernel)]
    have e0 : ev (0, 1, 0) r = r := by
      unfold ev
      dsimp only
      rw [F_one, F_zero]
      clear h h3
      grobner
    rw [e0]
    by_cases hr : r = 0
    · subst hr
      show pf 0 (pp - 1) * 0 = 0
      generalize pf (0 : Fin pp) (pp - 1) = z
      grobner
    · have e2 := root_inv hg hr
      have e3 : pf r (pp - 1 + 1) = pf r (pp - 1) * r := rfl
      rw [e2, one_mul', show pp - 1 + 1 = pp by decide +kernel] at e3
      exact e3
  have e2 : ev (tq.1, tq.2.1 + (pp - 1), tq.2.2) r = ev tq r - r := by
    have e4 : (F (pp - 1) : Fin pp) = - 1 := by
      have e : (F (pp - 1) : Fin pp) + 1 = 0 := by
        rw [← F_one, ← F_add, Nat.sub_add_cancel (by decide +kernel), F_pp]
      generalize (F (pp - 1) : Fin pp) = z at e ⊢
      grobner
    unfold ev
    dsimp only
    rw [F_add, e4]
    generalize (F tq.1 : Fin pp) = a0
    generalize (F tq.2.1 : Fin pp) = a1
    generalize (F tq.2.2 : Fin pp) = a2
    clear h h3 e1
    grobner
  have e5 := tm_ev h3 (76626890310466861426869089647039036757962535851890885406097439786770458211455, 74462945259064871768191128030512052509059297803194871526163573358218695456204, 34768139465301476436978405170953382516735956999154666452188405812258086013549) (tq.1, tq.2.1 + (pp - 1), tq.2.2)
  rw [tq_ok, e2, e1, ev_one] at e5
  generalize ev _ r = z at e5
  have z1 : (0 : Fin pp) ≠ 1 := by decide +kernel
  refine z1 ?_
  rw [e5]
  clear e5 h h3 e1 e2
  grobner

theorem good : Good E256 := by
  obtain ⟨g, hg⟩ := pp_root
  have h1 : 1 < pp := Nat.lt_trans (by decide) pp_big
  exact { hz := root_noz hg h1, nt := no_root, two := by decide +kernel, hinv := fun x hx => root_inv2 hg h1 hx }

/-- The curve's points. -/
abbrev Q := { p : P pp // E256.on p }

def grp : Ab Q where
  op p q := ⟨E256.add p.1 q.1, on_add good p.2 q.2⟩
  o := ⟨none, trivial⟩
  ng p := ⟨neg p.1, on_neg p.2⟩
  comm p q := Subtype.ext (add_comm' good p.2 q.2)
  assoc p q r := Subtype.ext (assoc good p.2 q.2 r.2)
  ido p := Subtype.ext (none_add E256 p.1)
  ngo p := Subtype.ext (add_neg E256 p.1)

theorem on_base : E256.on (some (F gx, F gy)) := by
  show F gy * F gy = F gx * F gx * F gx + F (pp - 3) * F gx + F bb
  rw [← F_mul, ← F_mul, ← F_mul, ← F_mul, ← F_add, ← F_add]
  exact Fin.ext (by decide +kernel)

def base : Q := ⟨some (F gx, F gy), on_base⟩

/-- Whether a line of slope l goes through both, and they aren't each other's negatives. -/
def lineOk (l x y x2 y2 : Nat) : Bool := decide (l * sb x2 x % pp = sb y2 y) && decide (l * (y + y2) % pp = (x * x + x * x2 + x2 * x2 + (pp - 3)) % pp) && (decide (sb x x2 ≠ 0) || decide ((y + y2) % pp ≠ 0))

theorem line_add {l x y x2 y2 : Nat} (h : lineOk l x y x2 y2 = true) (h1 : E256.on (some (F x, F y))) (h2 : E256.on (some (F x2, F y2))) :
    E256.add (some (F x, F y)) (some (F x2, F y2)) = some (F (sb (sb (l * l) x) x2), F (sb (l * sb x (sb (sb (l * l) x) x2)) y)) := by
  unfold lineOk at h
  simp only [Bool.and_eq_true, Bool.or_eq_true, decide_eq_true_eq] at h
  obtain ⟨⟨g1, g2⟩, g3⟩ := h
  have s1 : F l * (F x2 - F x) = (F y2 - F y : Fin pp) := by rw [← F_sb, ← F_mul, ← F_mod, g1, F_sb]
  have s2 : F l * (F y + F y2) = (F x * F x + F x * F x2 + F x2 * F x2 + F (pp - 3) : Fin pp) := by
    rw [← F_add, ← F_mul, ← F_mod, g2, F_mod, F_add, F_add, F_add, F_mul, F_mul, F_mul]
  have hn : ¬ ((F x : Fin pp) = F x2 ∧ (F y + F y2 : Fin pp) = 0) := by
    rintro ⟨e1, e2⟩
    rcases g3 with g | g
    · refine g ?_
      have : (F (sb x x2) : Fin pp) = 0 := by
        rw [F_sb, e1]
        generalize (F x2 : Fin pp) = v
        clear s1 s2 e1 e2
        grobner
      have := congrArg Fin.val this
      have this : sb x x2 % pp = 0 := this
      unfold sb at this ⊢
      rwa [Nat.mod_mod] at this
    · refine g ?_
      rw [← F_add] at e2
      exact congrArg Fin.val e2
  rw [add_of good h1 h2 hn ⟨s1, s2⟩]
  unfold third
  simp only [F_sb, F_mul]

def chain : List (Bool × Nat) → Nat → Nat → Nat → Option (Nat × Nat × Nat)
  | [], k, x, y => some (k, x, y)
  | (true, l) :: t, k, x, y => if lineOk l x y x y = true then chain t (k + k) (sb (sb (l * l) x) x) (sb (l * sb x (sb (sb (l * l) x) x)) y) else none
  | (false, l) :: t, k, x, y => if lineOk l x y gx gy = true then chain t (k + 1) (sb (sb (l * l) x) gx) (sb (l * sb x (sb (sb (l * l) x) gx)) y) else none

theorem chain_mul : ∀ (t : List (Bool × Nat)) (k x y : Nat) (r : Nat × Nat × Nat), (grp.mul k base).1 = some (F x, F y) → chain t k x y = some r → (grp.mul r.1 base).1 = some (F r.2.1, F r.2.2)
  | [], k, x, y, r, h, e => by
    have e : some (k, x, y) = some r := e
    obtain rfl := Option.some.inj e
    exact h
  | (true, l) :: t, k, x, y, r, h, e => by
    have hon := (grp.mul k base).2
    rw [h] at hon
    have e : (if lineOk l x y x y = true then chain t (k + k) (sb (sb (l * l) x) x) (sb (l * sb x (sb (sb (l * l) x) x)) y) else none) = some r := e
    by_cases hk : lineOk l x y x y = true
    · rw [if_pos hk] at e
      refine chain_mul t _ _ _ r ?_ e
      rw [grp.mul_add]
      show E256.add (grp.mul k base).1 (grp.mul k base).1 = _
      rw [h]
      exact line_add hk hon hon
    · rw [if_neg hk] at e; exact absurd e (by simp)
  | (false, l) :: t, k, x, y, r, h, e => by
    have hon := (grp.mul k base).2
    rw [h] at hon
    have e : (if lineOk l x y gx gy = true then chain t (k + 1) (sb (sb (l * l) x) gx) (sb (l * sb x (sb (sb (l * l) x) gx)) y) else none) = some r := e
    by_cases hk : lineOk l x y gx gy = true
    · rw [if_pos hk] at e
      refine chain_mul t _ _ _ r ?_ e
      show E256.add (grp.mul k base).1 base.1 = _
      rw [h]
      exact line_add hk hon on_base
    · rw [if_neg hk] at e; exact absurd e (by simp)

def steps : List (Bool × Nat) := [
  (true, 73404963663004311880882944372748989162084677934852963787452504780932599885725),
  (false, 18455939157588970446784565569990294768680858463148985486203132144235521409158),
  (true, 94077010709294835327335710377447664151039924665152497844385509293967802434042),
  (false, 17298896760937059227330305219937027545027516809470665448944811409727345455179),
  (true, 33744462628917865983834793244155171821667457958729417444696244301390630303270),
  (false, 8387993378041356477949655639557974465289092464874973152548928455537118027304),
  (true, 107913590891339763586570404493579235631221433394439457287933348614175279065401),
  (false, 101003233829374294254464418257344890901829826342818182899314988635586641471578),
  (true, 73721257366734510473601029265024128143084306532175521832108074613288196361150),
  (false, 8876555828433689728967995543578871721493560690139952555337855654508114429713),
  (true, 49956987125696543163365212668095534913489426971516538001084658164266584232952),
  (false, 109948437634422490447830279134419453200485828462474525455817625546636263566060),
  (true, 97390397146497799904381479216041063504071201037118011474949964806249578848990),
  (false, 80795057061897971965482161015637468876677908925054083149093637570996780002260),
  (true, 2863198373610500399949918110425951886070364341102820926408928831592840243512),
  (false, 71360271410006331994688904586613698443173341817434590696907157597759098315135),
  (true, 51126080295335133971572581823844994985216625563435458763687170964269549724155),
  (false, 79888962033259904802360558917474533632500779808228369548971036495638575173589),
  (true, 46850464523205843886243776921245341504659855906472732289286950208063178045938),
  (false, 82049011324756130821770114563222008656265494908085865519616214292886089810907),
  (true, 42201439154294479297818791700771876916847203434749601226972133501414832971272),
  (false, 106229803573881649611598350396230062686273437833329123763216946745938051777554),
  (true, 16369000143941809568122550604220640176652627427967929033918855914800892906770),
  (false, 74864637590629841271644889434526088213686554986968223816394172184980924384140),
  (true, 85828504532339093613948439770157277034585677272094372854877077371236919820609),
  (false, 38402888562079211472304434725914669767438316265758623963775124149777288339421),
  (true, 89751071957125369553349103129348241398320786258275402481372613884233427633239),
  (false, 48320574569101062595938531859750058570046349045782967708548483758214020495937),
  (true, 34715664709985773265095839839359165394965965999873560688596473041835304022832),
  (false, 37248782692036020521020669737805406328207687327370233795270532648280391986655),
  (true, 18213045838278291493870867698552939027909371890434029033343490503618731527787),
  (false, 75074638462744125718406173242555052542969393379527878775787640542926255750583),
  (true, 18126681452576708913690115356836697299921410073116988089797291276559687255203),
  (false, 33941616891450954805705669330052271694832463014175468224425006760649742799640),
  (true, 12359019315060310917032739197005016724415949889120672299078257019083701473765),
  (false, 97083912142437080679547589485029058597639004210516656270168047934943020344374),
  (true, 30515585219885793858330464749248875196356126394774453729516517453133617910099),
  (false, 110267629210054329599525815060142425545427637072042111684976991169579820038825),
  (true, 108427609530930381850914169163551293317955785083770213857565809468341925744726),
  (false, 35425339416413514450781068052794783761259190696790552764362861882766608416178),
  (true, 30691650196599370963318644943970509816940194974300637485985847860375531489183),
  (false, 73767845217005444543685506005800562251465416809330783401998790767177496318216),
  (true, 49071446858384623559634441871506817533311347800894512251187197563364307048716),
  (false, 22450630627113671487141729045973277772287063472671139062531701894311032525044),
  (true, 246398369117486413977576890911471786183402742655516259911192580954280129371),
  (false, 5440704982342684018714200785478436114186052156299448166630013479465655240430),
  (true, 82678506781928985946802018409188650695288361908527353026283526523681701564240),
  (false, 19669252657087186112744025154571376666490571079029327241706540916226855499262),
  (true, 97983910289160950110062491292522537945927030965029539953819248755688673043907),
  (false, 107262061509538212562233310537869815366591196390969006406860933473677048916526),
  (true, 22563738802984906093194304954648460563496354871539831344128449263828091335779),
  (false, 62889323627600697916121077132330228629777024134396175187407173961560155037043),
  (true, 67005987496533762522349721797619809259204060170617548162511399442010065284442),
  (false, 82429685953973276050906878264945482006473674615062627506726458009730692206220),
  (true, 59077299646832384403024218860812434308990449763262064487472974654731621241143),
  (false, 88752914659293083658747571361229409397153103810318973189277166450978384821710),
  (true, 1343658480667564329494968023201619601546375843270745644546888202610249725284),
  (false, 51348820930462226475679592235237705434821651794224504691040680876517669604028),
  (true, 98132133285139460524292995967688519657957785888073967799102371520045018372294),
  (false, 25566897147176221927865626006409292431466534900743534332788386437570538415192),
  (true, 10522125504155234337238927902569464210753398582770920291716940614301462099891),
  (false, 31684364798698599564617690806712112417562262411664129572319517563661815510450),
  (true, 104555946567286389792370838099024471843493796523862752548186056154541801728560),
  (true, 87185003277022714453495554820469931908587951283074689584489200932141184851951),
  (true, 102290578275991145773391791415444759461835579959628886621704647429177874408299),
  (true, 112058027311960515046957215189281606908195305841796123406856696715282189535735),
  (true, 35597195622703133496610498550630992986555911464123311226053898227580347407769),
  (true, 37869522475180083744938178272296846089239575967476808962076767218307516246816),
  (true, 83665229526843910575576259414031858276995819118225592631556002006018963361327),
  (true, 60335182151704775867089127284386192061139166715645380060226108072711830090806),
  (true, 103914240160845356833661375718184690407466683369452206669011007329267126096205),
  (true, 65177613485238411505762066086254442864014828079625793539882825440000903374575),
  (true, 15529539772737545434017552474622856700691243879508790136671089732285884757818),
  (true, 52041590357320812188780314911592952939662222567637978561852086839904097670844),
  (true, 44208027075984209832175850560514316244267756793042514067404579604156518742204),
  (true, 91093543835830246575737305470707600378346057465014691389200772227128643497335),
  (true, 96683468364239097603522744161141487774024498519916973672659108720986278946101),
  (true, 23424920283899733890826474375399335232920754552102446296160244673594752008246),
  (true, 103057569772381732661025303597141168486015349579815696774445108851019854064039),
  (true, 32975383636534723128906115342500812559913042624456542940875743952368152630286),
  (true, 29312306033421374657803998337941799041079746503331297541325847752927339010044),
  (true, 3523718244520710252896370731850737877054156053434087436586265151161315077219),
  (true, 10215548111160415768543568451557008487575725124175585253488311092553151410495),
  (true, 81951577729929157413203110387132521967274481918326146261944899706543581191259),
  (true, 32330744057940606064883101145198740754467600677463422165236783067803903418122),
  (true, 28019081833753191097233379250830650051986537991593640338327899565622963395353),
  (true, 89073244518576954847657416195273430640272266786978618995219003673095284251163),
  (true, 61962211466796988958615311639724952805368054717702688142287617637155752899609),
  (true, 109477984708084453533422284642717023519009230078173916074978835741701855302480),
  (true, 109452255664203710773423680945220055600392358242962580174716429819394862407820),
  (true, 82754585743683568612252483626513796518135231100551169733965403856424916827099),
  (true, 67467466162534937075719469219853157409778592346670008836075920744190097616240),
  (true, 43314266832197949953767785670930736362857644574701903714992563013025113651964),
  (true, 104465835838017961645031401180052788226065802478212439140119661152745229563397),
  (true, 40433888824704258336271536647972315030123400704493562287218852330294374598812),
  (false, 44216710529268162414046891549780093496334490122597146827575374531218501436499),
  (true, 59876144365278934484638454431091715509392674452599357302648928068816688321978),
  (false, 32359030787431714720445257412849822324102469276561757919260579264161647563842),
  (true, 56203551763128327654531768901347769018371355303424711803493238765263140702086),
  (false, 45057232249507709145842390643763683625994943943885029723256644360441433744631),
  (true, 36932547660878467631836283576359308756963275492677399552478681269060372871171),
  (false, 42350215630537327166447715060514657928305994783350484987106010657045220546646),
  (true, 2693224745073671592862212954453662516554242491576567253540641814362455282167),
  (false, 109073439437102875136858949755452477051864763417703775157445245824761828971206),
  (true, 1580777398428950574699406622134601119900822072027483458885699046594621085801),
  (false, 99169220883011493087861013489206592462701665499685244809101714124213638310671),
  (true, 53934601693913925841579754330298328807877374229804727596302298856022120574510),
  (false, 103448125630740065054341780514970771334083768509953905169297624838914364025836),
  (true, 71266446762930296667364111344496318848260631557046863706102625294070819746356),
  (false, 38151924339693841790591128323099021854892910974208234108791272434715986389049),
  (true, 44835830811694852121535753625614692656333698361770254481481536109440386070971),
  (false, 107851385434318419149207453653063482913748439726773372537108017894687782950643),
  (true, 1759944225795668153517223078070221470450457952709030339790356448563704124491),
  (false, 58170100431800387654725392059670637526943644751243600782416287660453133190945),
  (true, 2226860557160581154197238865459755048449475007518831810849011261458621833188),
  (false, 68790034385760816820449684705196675587978383079065003016348337611953946971172),
  (true, 14132541218166366383087187336884054435142915748710821752884044312203964098503),
  (false, 114340047534666139375435498518067279012006261201157205439284925701684062156517),
  (true, 42647811576164397220380383567077805881739016950728576120794438802377785038731),
  (false, 26348877474552727900504180010476330428643331931316005360005209627044007109078),
  (true, 45796454716196026944085030173853715099724790064072663103475139657256098662227),
  (false, 99363262547618985815543523148283983443545270477460807580009672048211669850766),
  (true, 60290885286483127606760730269293518588057567709273292110034084327870046688676),
  (false, 31189068751628223367216017832296445760970638168249881365790536951927005656920),
  (true, 75376560077569902168960370156851999683395728357534257441490901249635817013669),
  (false, 79043903791105920495539758888951962339122253190670094830084490922764513925220),
  (true, 85280464371761146737831246805351656811591566421138794945370114847652802803035),
  (false, 90080193691816582707388867233661660782983693629116091637003223055008636707262),
  (true, 42237647345310001547524403618350123895262698080690851238644748389409842178644),
  (false, 111278455460546278233663313366542494574203107254488985859531690585992195007357),
  (true, 20386794397189279681995972794312816389968712137869427930344049543425919196566),
  (false, 77725280078880875793248386652513624244661590299681258942139076354706858173990),
  (true, 29396493115743727075299279239166493948931974087399513865242606457878372438428),
  (false, 56597280744271473598767229563865763400574058557412762642126861715259121065118),
  (true, 29643443909326599742580875537343350579870354660318719818638710910725626734925),
  (false, 18996083147106004620487401306268146017171489657266724183313403753699931665065),
  (true, 31836145741312682450682951637273022227583216004789962396096898536213288400810),
  (false, 1368399364491949146849472283658319591439119417562139444777678574564880363758),
  (true, 90408121083371702440526860270968299724040337520984598974299989461444677677990),
  (false, 97264794844719164698016074668062034901184896795973314795354056554441543736021),
  (true, 45545000565044531843438025913757846724658800764670431616735711677075560416894),
  (false, 32689145857822880732893438421895733539436080824863921456042719109955790201940),
  (true, 37213186937523465406790386754250216950472482622979224959220194266409264665320),
  (false, 19369677830855960389806917384222968911049319639687193697168982912549896094571),
  (true, 36426315980861341057504788408495604391037931369655984587954362716695047141855),
  (false, 82046836791395930413005551327626014930261595231788492002287321876338487935649),
  (true, 26745615262053412641849216945867523278149157829120528798387966873165676415322),
  (false, 98978728129670055138657231564231893937594926521113280060905467806345739686995),
  (true, 15148507656381368504986185915835369742699375778098795139939265639479629670889),
  (false, 50224630036394627944152469233312140474174340097121944600386006942126403008938),
  (true, 44708486093363082279348154236947005845670241551188668753546184529188289268229),
  (false, 59272986110841544540718009621070162947334760553921273267582227688600962719136),
  (true, 95486846817518416829395836600636573110353539909610811183107487133653719372898),
  (false, 25260896594335036363303795675929580279802283719815437417781304430175422777177),
  (true, 13351579653159296582462257321830920014073464705519674757137726952869360038585),
  (false, 81663576490703417862602554112581027273065129864450228964952202916567578220328),
  (true, 72611794237493553216745404428290145642928229543419143023301726746837232504212),
  (false, 48261521384519712247049016141534583876967048475611968947939704851913111558051),
  (true, 19596522164807769803634893593727358797513445750183555518568893517994301671399),
  (false, 28116684930281724109779612866620482441619548927075153437291661503492564188022),
  (true, 88092693429984682181724954629015320626007791618380929478591052939772730762943),
  (false, 51689051411289057863172524143275930688619679910871739778477446678131052197602),
  (true, 11854047979516076002006028091193027203787190153238239653377529112855978264498),
  (false, 74336189992139545040358732653536926025397938117627573826712725090280123466399),
  (true, 51215761796391295945717904602192260047034233489227216504087987560930616688128),
  (false, 70965350222275731451579491853629595192742086063971463870478469187523831493731),
  (true, 78518609376371656162430678203306932823489098162683976636933961182354431945439),
  (false, 6403166077505122146663138973061931669714026996117722364593835028266131043956),
  (true, 108593070655756708403752176637920034602399732610524513598383731760823701647038),
  (false, 50799864103194029047845992409330080427219608424352762998410359110461975977635),
  (true, 114118741713006124192882174805536986890647524575882280518848773964620831208336),
  (false, 13910878780437662499852235219962575412427193660396128642704430613085706583782),
  (true, 90331757354632268321027062135584104662246051328067186977123696115011881915751),
  (false, 108189673957365163451328521172336381821806831295734688939791174066511662607459),
  (true, 75437857566797857110795730324234335474090811221699495169193194819099921749380),
  (false, 8584158628680597652796699442523731343199257074369531990958623185753374294982),
  (true, 100243263600570607090488290311487150544597119823243597100238066401593622156368),
  (false, 53195881593040850615294033302548722896587040134585818340183757496648609563952),
  (true, 92130653824046831937489174785426517530705607173493590393347233137455294795871),
  (false, 104859257624140594743560182251257993316400336216182154123443662958230597253267),
  (true, 68178528647516051969841425768436744408411647151767599740734550769743665420869),
  (false, 44089612748108169058580555779791816610165364393673312820090235490906200175908),
  (true, 17451521664014543531482579630268919331376693971277522446683852976596763165518),
  (false, 96906415495142294823505426039083308792394526848599349938767840659873810293901),
  (true, 89538400865952205701317630930181906330044205956706230011717807078145535913652),
  (false, 102620651583980271950767328001700136302936490269334672533985721919237162824110),
  (true, 24574163339067322835308457867786445568917727648957631095181839769382797223616),
  (false, 63335460181515645749119064864380168657967371033405406976307758678310635625215),
  (true, 62082474922921722338433972576907829425000051988102383015266531093489614870345),
  (false, 70059630453230426638884252446666336991759269775738254010804460306609635437534),
  (true, 77846719366841137429004795124148911810674350637299495976557174602108201723182),
  (false, 79840554680527048203632684248648079821302312031943585938515492895625410500967),
  (true, 25287156314192066902866147131496535930927892406511407810882897248712256635986),
  (false, 34324263890389706943022813962404254774922885712285719530044275966200430834555),
  (true, 69798994306189430180870401852743986521599065254807479457866208916151190578124),
  (false, 21994125470207237252444091565986950016049207580900100486767267944981227325880),
  (true, 45111355663175007673830239769112779734523922769636883633401761446248252466899),
  (false, 45084759124315329384230807823632340291627100211949918242724081728594796871240),
  (true, 94277632649973053044561144707099488498265186431722108733744263910793547369971),
  (false, 31700651863198516272973033584293922564565454461576950048416240518363807681209),
  (true, 23483827811966833768514814338169280420789730318465848027622391887783281292368),
  (false, 35121610555709880732556195523952626172444515003790060994599055114953986772189),
  (true, 36754733072347376599463293883698525380142026461898725930746146341783895110736),
  (false, 80847183445344835859729052013504598826778156486967605447624871713223128906755),
  (true, 59765818569221594819786233802602442922451981098777454317427210311236248614133),
  (false, 100884535391258230687122813027523409299278938509246559456960505350161682229949),
  (true, 105208445021363576261651038183209079370178751141861540317941289664537054040110),
  (false, 20478805942303620627148589737072312397812962861966454453711013155157723186773),
  (true, 18006066811992236768252063112136398603015125732904962596089207759128109642032),
  (false, 38532729146931432398682650934780358501531258354834415875491250124441444837683),
  (true, 89070832977907102454908871221622886715722559040117745079493154584335445103560),
  (false, 77147799100643971706306427631227800222531095998375912525531112446136008834381),
  (true, 81336813323806042663299861504312071016914889906523409867114508576841884388494),
  (false, 41203248499212552440188233716963027146746795981852123495596882429793083902679),
  (true, 92878089192223236181381024883903546684020895199051825217752961548400262902690),
  (false, 104243565992663639038244457211170136128749737083730486709737970658698856896196),
  (true, 105243468478750178513251914731101195855096321965502306522303933689887742746553),
  (false, 30819978034672279875862447608093499032290931761010951166068689351731373184344),
  (true, 45324994407792761697348281395935684745101395796997772543888716791034777621357),
  (false, 62364423143317259892418252210906436460106786043730228759228469381054428916676),
  (true, 64876024468968442277689677293165160528383170714421475513954578528808017935031),
  (false, 4382536497801851170578259770430246485054277942940866491603708568747940330289),
  (true, 55969133456263714299638216720363235988229734244649952240178357678090082805582),
  (false, 107804575852664949826319977474716604582315784976915925680175288377544659591719),
  (true, 6842696983610121476693140985605401006067463571831801628639890206183594301001),
  (true, 89227009677593734455092424151312429785196538269746284633723438410284525574923),
  (false, 39467874897276015006342227972849938852858965570552618109012234202944677283608),
  (true, 73310905249629292750573415259896839865550003071437965445839039175371403888488),
  (false, 22494629369180603217228501492268032106570824285485378433241799110885385596132),
  (true, 89416636710036394747513194648374672171817283287492827933039381731248729800362),
  (false, 3765544845208169229761921702290223046713451272130770172098900687846335328213),
  (true, 77215402206150575994212588396270822213324313165272715872521897052444781819957),
  (false, 99131600260434464403077990764984231342750973343807824302586860806343917794402),
  (true, 46722349102476586499288377892754313083828035907015456683646369440675137900695),
  (true, 107817413956952308000485590521940549430748221876636176457153376876707234427934),
  (true, 92981736123359439935143501970256591664663013732531879702586262052379832131327),
  (false, 5878779294817255955775219955132645617733111632067044423936611468397108627693),
  (true, 39066630856641836027966188058037826613304870756998191149949319795315952277505),
  (false, 7023799785834031832279160125861864095484483118356619039204603143653769966430),
  (true, 40620427165891173097083626369917219701345398952624445003690492856578532213334),
  (false, 86678614764064862357971136219980302309746202716703893531704819465307072826150),
  (true, 79287123822375383354093906045904910561466342133298098142721228520519570063186),
  (true, 78400895777110603117168578481903086034393874045114718378124233596354887060896),
  (true, 32675901099753495025630240846587627568888473791209307200609765835956424331558),
  (false, 104697821467469492652224601606530318349499621419886841330525396996543225358311),
  (true, 90954253001292348035464129968199094353787897608900086103196912805036115527139),
  (false, 109068273969296649278703294035713251373939019245975776508860276599239128104829),
  (true, 114862052398668680947305957849925509680631844765463026776421314838849381374135),
  (true, 4451733364738401822870649247743923122274642171473347653566236810616110798908),
  (false, 105357305042954581406527367139519673843600544214290463858437591558254409566960),
  (true, 45156431895087167574693291429038452773895478090702165922430635530896388400010),
  (false, 96751341169405603503181343087217972587776942989798876857308945166899429449691),
  (true, 78949794685319288503175268641086420673019920730870338857908779100069320789469),
  (false, 12528443965739532406872468611268858130607615096904964879682237655992719012042),
  (true, 17612738457056860441756967203320311171379299392994687504756784503351080687202),
  (false, 20921681899761880888294787511175123879644293856460673466479011688680124115644),
  (true, 61264156006629702044199557864519856883258104481925060514728847644073704549298),
  (false, 101487930328126816950102324460846860561502366090510408680222703137632149529942),
  (true, 109864625962434667767074196088884114323664435567243146764616830213554190827562),
  (true, 65683043189853553149067422650195529016802167620052711059299427601785396928068),
  (false, 97886237573861015232340922830031684339952065489214701718338155032311842103603),
  (true, 56334292367403412662410184013920056314386632527197993187742815054829687643187),
  (true, 24322520934728692067295441818256374567058904112093935855488214825113109368707),
  (false, 113427146488114381489980164526839616474260951709515817980744174520190862727281),
  (true, 45600249122893859364452937197636300452519698076589744228163916002717878942574),
  (true, 23860765095911696355536101961972812137820573795768394392290577904457982995407),
  (false, 41555827998483151334214427517474012956070046451938093854742879319677808061014),
  (true, 36331752644874193314589090615138944831592133580386863353585736361415845879454),
  (true, 20570457662390503157837218165847138635215693353048658823114789844270198965055),
  (false, 6928604201116500537925197527104799797426966374600335663212083550052627274827),
  (true, 90503024886222466445910956539242962584895452090818022777689908237001773627394),
  (false, 21504978398594920567190744045594138977339125411268175394819410129307375620569),
  (true, 103389442367378709500129540027961840949701588261070988894123721595032406336618),
  (true, 107557261614453713906057672803816336172929968943345861743745810883526585690919),
  (false, 13791487654797255041210029727263067456355196774703981698496244235868022418801),
  (true, 114688123630903849386319660965126768089496745933681053664721587986837568231017),
  (false, 92699683356705463032989917143982824087263445638188140108374483203046691016236),
  (true, 33568429453957272088637597505678673438124695105447881390688209467723578932442),
  (true, 17191620986139768750507542130154500389037514165555603718265466845447421338082),
  (false, 20777427694881610050827073052830823461977088995420687290234880181088835477747),
  (true, 10190335659228560594655225070484631712737660236026892490421339568374730423976),
  (true, 20858386030135550732706536658360988526219833157296531524461690045786227812773),
  (true, 34719946098369098079110893759984119410080239870564230614132225195399315314060),
  (false, 67505429068685431932830173846391667329263150257983496025170360458468726928976),
  (true, 104700292323100616370524927958144411601500412924979194192782814446735411199899),
  (false, 61601708860008520747753376843703952875993118917460273291902042291227696622472),
  (true, 43529639378104324457169140601940988150427167069475064464366644546707572726923),
  (false, 28034642018981874676193437987174878705820206348941589398638407301158159235844),
  (true, 22847216734594786264978517006548715017438690114164923016774000228003579908888),
  (true, 57006326771675166938253274640014290410987321212691641769744593278470657399320),
  (true, 61188191400965538014465498456641756873627144923558166504983091519199122563709),
  (true, 38427815707571053659690979624415076731817891185380229328471569875188852606809),
  (false, 111078335344839620088504877408040387836784782228456452535036502485174999068425),
  (true, 41075138505142334263141879168957541818925770159420674030524089826345798161262),
  (true, 67160381721388468816860281693784209619358740254252827339582230087851433243252),
  (false, 59294238945820065880709522772662203116076062726221255280140838961982879755246),
  (true, 91557825219255575652534467137894351858668188610376173534029296284929482061297),
  (false, 67086919321465504627438952929105647518201016104965553581267819377672377894377),
  (true, 101397502575784632180589891948016941599896339592153044640853035655775307777014),
  (false, 76412799763477606375698745358211337982947788309479137177885645997365517576219),
  (true, 63118030303642548378665323481356934434914000326802373588693188379029970673552),
  (false, 81727193064488394472606592473943845666818416165663032037453473401675589511090),
  (true, 1365880450802188703193992349857055150017525649617494598184502591331820317828),
  (true, 24249466901890466523356922091875300977341171605656217437690630091486446110563),
  (true, 52520149218157241666968569457133853785247467428819614894517984140707789543308),
  (false, 90023917166405953124366167411819741222133367114937032034517615471995174804608),
  (true, 49576759368578869511451818201795060564944153263268174908232882000114518463844),
  (false, 69719727478591150579129951276850553146094525256362102802997327208206126714745),
  (true, 39387074553660814856284832338886959955026432518842662514623031493253605354284),
  (false, 24150939270033518108471627256217685479313948887890991469507527819823802326839),
  (true, 40794565349924448048018282647138841547656206251743342719578175646404503994932),
  (false, 106362391830013531104601240317014741440557532474635442086224537832241530169469),
  (true, 72544474712471297663693408796327132856162737291129515811037852886770857667610),
  (true, 72221406740123949453687156800891020610818798093248675472379810954659572267830),
  (false, 15854762726855456903853592208127843771278673596029335089551869893594102968363),
  (true, 38193310340305465208053615396901143808178965853446075577001410605526543297671),
  (true, 57009442585358948283679804494421846286512375799861877656875590261272444077600),
  (true, 6342663167678140050046339311707006532603736078593584660270789761940947605557),
  (true, 97131743972107047864310451641136806728140869932903710646063492931157017381045),
  (true, 15893405817092515174714779718425859383547298242482376130008291033589485873319),
  (false, 40855092305992633435026348101060346439774943148589808981597675913911554361604),
  (true, 25721172972147193763348371063863201309009625264190974028796506816067020157681),
  (true, 67719677866474259080646649624365071025163027001740620961015898026559041515825),
  (true, 115038705721040549955496299836511775907179382880943666414106641735588680302947),
  (false, 52440631014883964430493410791658788423099095006036779533519039688823595042178),
  (true, 76994695236887114335252095985052418517097947282561976881434542118626623073798),
  (false, 99640968817291275978917744002037467344886262113767070868681968000720889174653),
  (true, 12078464435114838399136295861599407256787671833192806866232522567718144322002),
  (false, 66130196829682072558770075227475827891294565616428985468520678856955345918412),
  (true, 13981377110660502333545653188764445074558706352404435223175800578407269784586),
  (false, 13347430286819234240628998565208152173989495759193151090752606367930559580071),
  (true, 97931427411243549066540555046649563010001251023341015271444019036481726177659),
  (true, 23916383908504127320814920499247235338071943260790068826695851199774658532161),
  (true, 26313340593335717918581901439133208303068203838844827384304076969757474910972),
  (false, 80128608451976981805667407082565726742997875812361182778264223782204752255967),
  (true, 32408548149079939902047627425708216530879846808358322152498677487820947054329),
  (false, 16010101701891125666896969243601564372730495804971055803867278630183336338004),
  (true, 49444381710738592530283467511948112497508332384718783907767430114922005351536),
  (false, 92828642277081366569811881538886767768824527756612010214661724621696417552003),
  (true, 48319616541892761948300511088731867773797509517308432235455759078303911340162),
  (true, 83256453897004885747416333287163591597855537401084730349087974962939459868896),
  (false, 68571215513029431022008249430271836302363194579159663168424939031982850964201),
  (true, 17711232392101925965222157895168584423974928404422476521666848844209071882853),
  (false, 40061894962387627545028357475016263837596480334836870170656706475325765555795),
  (true, 65018201682654616204826564250923544344726438484646211354657396991279714304043),
  (false, 80639074148519625911124643915170327509025844317305379230475078713935188556488),
  (true, 13634553361178251300919821676365112978366182598744573712433944080389322256603),
  (true, 79372263453053073247238091694958593899985338590758992589263680805139040634123),
  (true, 106221720130811713274006420822825952553453851281868605163143221025034427117790),
  (false, 43397126114913356459098179214386698510346771631844608755117167122149689871784),
  (true, 71271691688561222477502904152573958440968540755517837557340650451458965781820),
  (false, 99832633758149498305202074410515233217082213191075953167089849402873244722024),
  (true, 39757901017891700884131209795226371235400392489279283652421447965533388200539),
  (false, 52780034181730602741283877029475801174871771490591925162455325072426536899620),
  (true, 112899048161347407461053233929617785911275408481364641445520462256580259958039),
  (true, 14240764264428884035059087500334795182274960095819322710721277045654501298711),
  (true, 7120832132114496431415615164698655765418543566781986915004929246328975513408),
  (false, 71169160650287362263251096980907469354926136363821741313822650470003039629713),
  (true, 10524500947819599246738599106857533519075548878864584680076101042506218288116),
  (true, 91888230921955245550501605389226550268587232094589727374310301014323294317743),
  (false, 52830449137875271882896876676085542643570974698399403271147467955442348229765),
  (true, 68588867449926396854193278619386521660548956785015474810946215001524438754610),
  (true, 79794116190992081243503321414503006963797780439363841565792850431941777486878),
  (false, 82990656174278792072788400992532911274448062812349026533419169279507588848451),
  (true, 107993394619758876514650470945288164399300550225498061501312202546186509557593),
  (false, 94700534674561642518583986861475334573060125011608063280154045780982983017587),
  (true, 94748858405437480314494716377738013592262933264866181994278424195654017933147),
  (true, 110090688395069473002612821939944391235001290312777969309929959957043898773260),
  (true, 86001537025197276084803175404708590391678700573696975715364854235602973136960),
  (true, 97005571104555948580875596805916334960621595822566663609978083122027239592845),
  (true, 5488572262402578378589535690094257829783448094408686017389464438611864649055),
  (false, 40578906946163154587196708265429653145500949959917653841457841881972492705405),
  (true, 101140014554495416031849415469571900099789317226481011332243963571339963416081),
  (true, 16278666112491805642521111162076401747277431823155320516738715560329681374032),
  (false, 21345816720784850786792028968414120249176051183684909413893802656026397751116),
  (true, 95794207916375400612188236966684198729475676497586325686640014115057663672899),
  (false, 38304348557891290800210679145002838400863915263157121872424117143473436213363),
  (true, 40989275867198528837818580904723583202505947987008637716933650594947933270569),
  (false, 8136736043771673704133559657815533675907176794954009985820969679685243089964),
  (true, 1983232849617585079203495760165156249543432121805775384620547813350167873265),
  (false, 106676845953096210610777316733001385383022150506883365694274546126522617545802),
  (true, 3786231895749059258258768019942145916986244434851588761732210190608888881140),
  (false, 7003026393907079330124421657796173856970017075690421482201530465804750648854),
  (true, 107556547398804584965923380679005314166033458044825653531378549341796870787135),
  (false, 19406443930254259308702488169491973685845707230826441600404434919165866969626),
  (true, 396240271226079312112517465191825215228541380447435716513128138844604463093),
  (true, 114367016617795868063316635489429699768417660887976604423339920318351359214389),
  (true, 75650478868455130737161608246474597750229468180929629630299859916819150746528),
  (true, 34405168371249009316530766693812821725953528615755956224439171954328966632374),
  (false, 11410590726481505752452318122382805754602791070942354747092762466609424055997),
  (true, 43767959953551064749725749799455751318842064246061777680432428612080005337377),
  (false, 103769124508935639291789587687202094118792663545621823180027379108120112898017),
  (true, 70791693820035661909893488112240360301525631271115123675622043088505748150556),
  (true, 115508749928134693825986523708005402895931834873645566053598291406369816586513),
  (true, 22625339349373815971839050908913925059556493830438786052004236675202916178072),
  (true, 77425353538430382319431649294292243780356000259960150359559273403798565258806),
  (false, 81326155548872198574647417018727751620474480061940036426480811840094543203214),
  (true, 113053033931809680513077370003912173079985276093602849796762554914199443229024),
  (false, 106674924911319916945218014589412756120224705370089798607160356512600393044261),
  (true, 30858888317741575458202316089213416194109987323505464082228500530540415253863),
  (true, 21374995312708214987368883756839090584918630701485846822280425151698232796497),
  (true, 104049711252471366021942165911671692181479163149217110694787277348118447920953),
  (false, 90169606689269173572286554834776073159084417604997754167679330598390672263828),
  (true, 6165138440403801557327700192285563912088791345059351429933665095587586756367),
  (true, 95638654087575220865514599927390236309670371176143459303804585300053262321193),
  (true, 93507096072782988905319625336485652224427812863632882600275756722876728702100),
  (false, 62972383805570798408282104168714462313021426670963980283421176680630504350744),
  (true, 27716377618015514619889894330877148387406398157576843441599641773290143662646),
  (true, 20476764488075895020000572145857444528920539241959680410301050806531365921077),
  (false, 49349310473956265162745111685043382946407793243101688113952424611456719943583),
  (true, 111172097099719159000974537484180927862914227103675072597202747239242612755976),
  (true, 105183041477427711256856663297204403995505456076753037136618489836537156502780),
  (false, 114992393277685970062266744656800751353863595515615363557585899852898704712791),
  (true, 8992663570177172605521845414261964924849228246651463797454665306269442345062),
  (true, 39018020149987714242246986945594517964680254843919629432323122217991705229979),
  (false, 70320377984314827821838576231466289945145144328243863501102399004713003907682),
  (true, 36661228441783414426633516774136062458879704552082600183592120886352783423353),
  (true, 84126526462178050181261884823144887717190756184101848216471003771620932292296),
  (true, 53085063961662281017418079401884276428623126487223128912759648345435944464786),
  (true, 59348699254776951351374474789973024249386570196781804898524919173779757720106)]

theorem steps_ok : chain steps 1 gx gy = some (nn - 1, gx, pp - gy) := by decide +kernel

theorem nn_base : grp.mul nn base = grp.o := by
  have h := chain_mul steps 1 gx gy _ (by rw [grp.mul_one]; rfl) steps_ok
  have h : (grp.mul (nn - 1) base).1 = some (F gx, F (pp - gy)) := h
  have e : nn = nn - 1 + 1 := by decide +kernel
  rw [e, grp.mul_succ]
  apply Subtype.ext
  generalize grp.mul (nn - 1) base = q at h ⊢
  show E256.add q.1 (some (F gx, F gy)) = none
  rw [h]
  refine add_opp E256 ⟨rfl, ?_⟩
  rw [← F_add, Nat.sub_add_cancel (by decide +kernel), F_pp]

/-- A point's number. -/
def code : Q → Nat
  | ⟨none, _⟩ => 0
  | ⟨some (x, y), _⟩ => 1 + 2 * x.val + (if y.val ≤ (- y).val then 0 else 1)

theorem code_lt (q : Q) : code q < 2 * pp + 1 := by
  obtain ⟨_ | ⟨x, y⟩, h⟩ := q
  · show 0 < _; omega
  · have := x.isLt
    show 1 + 2 * x.val + (if y.val ≤ (- y).val then 0 else 1) < _
    split <;> omega

theorem code_inj (q r : Q) (h : code q = code r) : q = r := by
  obtain ⟨_ | ⟨x, y⟩, hq⟩ := q <;> obtain ⟨_ | ⟨x', y'⟩, hr⟩ := r
  · rfl
  · exfalso
    have h : 0 = 1 + 2 * x'.val + (if y'.val ≤ (- y').val then 0 else 1) := h
    omega
  · exfalso
    have h : 1 + 2 * x.val + (if y.val ≤ (- y).val then 0 else 1) = 0 := h
    omega
  · change 1 + 2 * x.val + (if y.val ≤ (- y).val then 0 else 1) = 1 + 2 * x'.val + (if y'.val ≤ (- y').val then 0 else 1) at h
    have hx : x = x' := Fin.ext (by split at h <;> split at h <;> omega)
    subst hx
    have h2 : (if y.val ≤ (- y).val then 0 else 1) = (if y'.val ≤ (- y').val then 0 else 1) := by omega
    clear h
    change OnC _ _ _ _ at hq hr
    unfold OnC at hq hr
    have e : (y - y') * (y + y') = 0 := by
      have : y * y = y' * y' := by rw [hq, hr]
      clear hq hr h2
      grobner
    rcases good.hz _ _ e with e | e
    · have hy : y = y' := eq_of_sub e
      subst hy
      rfl
    · have hy : y' = - y := by clear hq hr h2; grobner
      have hy2 : y = - y' := by clear hq hr h2 hy; grobner
      rw [← hy, ← hy2] at h2
      have : y.val = y'.val := by split at h2 <;> split at h2 <;> omega
      have hy : y = y' := Fin.ext this
      subst hy
      rfl

theorem no_two (q : Q) (h : grp.op q q = grp.o) : q = grp.o := by
  obtain ⟨_ | ⟨x, y⟩, hq⟩ := q
  · rfl
  · exfalso
    have h : E256.add (some (x, y)) (some (x, y)) = none := congrArg Subtype.val h
    by_cases hy : y + y = 0
    · exact y_ne good hq (dbl_zero good hy)
    · have hn : ¬ (x = x ∧ y + y = 0) := fun e => hy e.2
      rw [add_of good hq hq hn (lam_slope good hq hq hn)] at h
      exact absurd h (by unfold third; simp)

/-- That many times any point is far. -/
theorem nn_all (q : Q) : grp.mul nn q = grp.o :=
  Ab.all_of nn_pr.2 (by decide +kernel) nn_base (by intro h; have h := congrArg Subtype.val h; have h : some (F gx, F gy) = none := h; exact absurd h (by simp)) code code_lt code_inj (by decide +kernel) no_two q

/-! How a walk meets these: numbers below the modulus, as values of the field's. -/

theorem pp_pr : Pr pp := by
  obtain ⟨g, hg⟩ := pp_root
  exact root_pr hg (Nat.lt_trans (by decide) pp_big)

theorem v_add (x y : Fin pp) : (x.val + y.val) % pp = (x + y).val := (Fin.val_add x y).symm
theorem v_mul (x y : Fin pp) : x.val * y.val % pp = (x * y).val := (Fin.val_mul x y).symm
theorem v_sub (x y : Fin pp) : (x.val + pp - y.val) % pp = (x - y).val := by
  have h := y.isLt
  rw [Fin.sub_def]
  show _ = (pp - y.val + x.val) % pp
  congr 1
  omega

theorem v_gcd {x : Fin pp} (h : x ≠ 0) : Nat.gcd x.val pp = 1 := by
  rcases pp_pr.2 _ (Nat.gcd_dvd_right x.val pp) with h1 | h1
  · exact h1
  · exfalso
    have h2 := Nat.gcd_dvd_left x.val pp
    rw [h1] at h2
    have h0 : x.val ≠ 0 := fun e => h (Fin.ext (by rw [e, Fin.val_zero]))
    have h3 := Nat.le_of_dvd (Nat.pos_of_ne_zero h0) h2
    have := x.isLt
    omega

/-- Two that make 1 with the same number are one. -/
theorem v_inv {x : Fin pp} {t : Nat} (ht : t < pp) (h : x.val * t % pp = 1) : t = (E256.inv x).val := by
  have e1 : x * F t = 1 := by
    apply Fin.ext
    rw [Fin.val_mul]
    show x.val * (t % pp) % pp = 1
    rw [Nat.mod_eq_of_lt ht, h]
  have hx : x ≠ 0 := by
    rintro rfl
    rw [Fin.val_zero, Nat.zero_mul, Nat.zero_mod] at h
    exact absurd h (by decide)
  have e2 := good.hinv x hx
  have e3 : (F t : Fin pp) = E256.inv x := by
    have : (F t : Fin pp) = x * F t * E256.inv x := by
      rw [mul_comm' x, mul_assoc', e2, mul_one']
    rw [this, e1, one_mul']
  rw [← e3]
  exact (Nat.mod_eq_of_lt ht).symm

theorem ring_on {n : Nat} [NeZero n] (b x y : Fin n) : y * y = x * x * x - 3 * x + b ↔ y * y = x * x * x + - 3 * x + b := by
  constructor
  · intro h; rw [h]; clear h; grobner
  · intro h; rw [h]; clear h; grobner

/-- Whether a point is on the curve, as the document says it. -/
theorem on_iff (x y : Fin pp) : E256.on (some (x, y)) ↔ y * y = x * x * x - 3 * x + F bb := by
  show y * y = x * x * x + F (pp - 3) * x + F bb ↔ _
  rw [F_p3]
  exact (ring_on _ _ _).symm

theorem ring_lam {n : Nat} [NeZero n] (x i : Fin n) : (3 * (x * x) + - 3) * i = 3 * (x * x - 1) * i := by grobner

theorem lam_same (x y : Fin pp) : E256.lam x y x y = 3 * (x * x - 1) * E256.inv (y + y) := by
  unfold Cur.lam
  rw [if_pos ⟨rfl, rfl⟩]
  show (3 * (x * x) + F (pp - 3)) * _ = _
  rw [F_p3]
  exact ring_lam _ _

theorem lam_else {x1 y1 x2 y2 : Fin pp} (h : ¬ (x1 = x2 ∧ y1 = y2)) : E256.lam x1 y1 x2 y2 = (y2 - y1) * E256.inv (x2 - x1) := if_neg h

theorem ring_neg {n : Nat} [NeZero n] (y1 y2 : Fin n) : y1 = 0 - y2 ↔ y1 + y2 = 0 := by
  constructor
  · intro h; subst h; grobner
  · intro h; grobner

theorem ring_neg2 {n : Nat} [NeZero n] (y : Fin n) : 0 - y = - y := by grobner

theorem add_far {x1 y1 x2 y2 : Fin pp} (h : x1 = x2 ∧ y1 = 0 - y2) : E256.add (some (x1, y1)) (some (x2, y2)) = none := add_opp E256 ⟨h.1, (ring_neg _ _).mp h.2⟩

theorem add_near {x1 y1 x2 y2 : Fin pp} (h : ¬ (x1 = x2 ∧ y1 = 0 - y2)) : E256.add (some (x1, y1)) (some (x2, y2)) = third x1 y1 x2 (E256.lam x1 y1 x2 y2) :=
  if_neg (fun e => h ⟨e.1, (ring_neg _ _).mpr e.2⟩)

/-- Where two on the curve aren't each other's negatives, what the slope is divided by isn't 0. -/
theorem down_same {x y : Fin pp} (h : E256.on (some (x, y))) : y + y ≠ 0 := fun e => y_ne good h (dbl_zero good e)

theorem down_else {x1 y1 x2 y2 : Fin pp} (h1 : E256.on (some (x1, y1))) (h2 : E256.on (some (x2, y2))) (hn : ¬ (x1 = x2 ∧ y1 = 0 - y2)) (hs : ¬ (x1 = x2 ∧ y1 = y2)) : x2 - x1 ≠ 0 := by
  intro e
  have hx := (eq_of_sub e).symm
  subst hx
  have e1 : y1 * y1 = y2 * y2 := by
    have h1 : y1 * y1 = _ := h1
    have h2 : y2 * y2 = _ := h2
    rw [h1, h2]
  have e2 : (y1 - y2) * (y1 + y2) = 0 := by clear h1 h2 hn hs e; grobner
  rcases good.hz _ _ e2 with h | h
  · exact hs ⟨rfl, eq_of_sub h⟩
  · exact hn ⟨rfl, (ring_neg _ _).mpr h⟩

/-- Multiples, by bits from the top. -/
theorem mul_top (k i : Nat) (q : Q) : grp.mul (k / 2 ^ i) q = (if k / 2 ^ i % 2 = 1 then grp.op (grp.op (grp.mul (k / 2 ^ (i + 1)) q) (grp.mul (k / 2 ^ (i + 1)) q)) q else grp.op (grp.mul (k / 2 ^ (i + 1)) q) (grp.mul (k / 2 ^ (i + 1)) q)) := by
  have e : k / 2 ^ (i + 1) = k / 2 ^ i / 2 := by rw [Nat.pow_succ, Nat.div_div_eq_div_mul]
  rw [e]
  generalize k / 2 ^ i = m
  rw [← grp.mul_add]
  by_cases h : m % 2 = 1
  · rw [if_pos h, ← grp.mul_succ]
    congr 1
    omega
  · rw [if_neg h]
    congr 1
    omega

/-- Behind n multiples they come again. -/
theorem mul_round (k : Nat) (q : Q) : grp.mul (k + nn) q = grp.mul k q := by rw [grp.mul_add, nn_all, grp.oid]

theorem mul_nn (k : Nat) (q : Q) : grp.mul (k % nn) q = grp.mul k q := by
  have e := Nat.div_add_mod k nn
  have h : grp.mul (nn * (k / nn)) q = grp.o := by rw [Nat.mul_comm, grp.mul_mul, nn_all, grp.mul_o]
  have h2 : grp.mul (nn * (k / nn) + k % nn) q = grp.mul k q := by rw [e]
  rw [← h2, grp.mul_add, h, grp.ido]

/-- A point's numbers: X, Y, and whether it is far. -/
def pX : P pp → Nat
  | none => 0
  | some (x, _) => x.val
def pY : P pp → Nat
  | none => 0
  | some (_, y) => y.val
def pFar : P pp → Bool
  | none => true
  | some _ => false

theorem pX_lt (p : P pp) : pX p < pp := by
  rcases p with _ | ⟨x, y⟩
  · exact Nat.lt_trans (by decide) pp_big
  · exact x.isLt
theorem pY_lt (p : P pp) : pY p < pp := by
  rcases p with _ | ⟨x, y⟩
  · exact Nat.lt_trans (by decide) pp_big
  · exact y.isLt
theorem p_inj {p q : P pp} (h1 : pX p = pX q) (h2 : pY p = pY q) (h3 : pFar p = pFar q) : p = q := by
  rcases p with _ | ⟨x, y⟩ <;> rcases q with _ | ⟨x', y'⟩
  · rfl
  · exact absurd h3 (by simp [pFar])
  · exact absurd h3 (by simp [pFar])
  · rw [show x = x' from Fin.ext h1, show y = y' from Fin.ext h2]

/-- What numbers stand for a point on the curve. -/
def isOn (X Y : Nat) (far : Bool) : Prop := if far = true then X = 0 ∧ Y = 0 else X < pp ∧ Y < pp ∧ E256.on (some (F X, F Y))

theorem isOn_iff (X Y : Nat) (far : Bool) : isOn X Y far ↔ ∃ q : Q, X = pX q.1 ∧ Y = pY q.1 ∧ far = pFar q.1 := by
  unfold isOn
  by_cases h : far = true
  · rw [if_pos h]
    subst h
    constructor
    · rintro ⟨rfl, rfl⟩
      exact ⟨grp.o, rfl, rfl, rfl⟩
    · rintro ⟨⟨_ | ⟨x, y⟩, hq⟩, h1, h2, h3⟩
      · exact ⟨h1, h2⟩
      · exact absurd h3 (by simp [pFar])
  · rw [if_neg h]
    have h : far = false := by simpa using h
    subst h
    constructor
    · rintro ⟨hx, hy, ho⟩
      exact ⟨⟨_, ho⟩, (Nat.mod_eq_of_lt hx).symm, (Nat.mod_eq_of_lt hy).symm, rfl⟩
    · rintro ⟨⟨_ | ⟨x, y⟩, hq⟩, h1, h2, h3⟩
      · exact absurd h3 (by simp [pFar])
      · have h1 : X = x.val := h1
        have h2 : Y = y.val := h2
        subst h1
        subst h2
        rw [F_val, F_val]
        exact ⟨x.isLt, y.isLt, hq⟩
end Go.Proofs.YthgenmoiendakaaDoor.Pt


/-
  Regions that draw their order and whose calls may make memory: one walk in the text's order serves every order, if each operation yields one value in whatever world that still has all that was there.
-/
namespace Go.Proofs.YthgenmoiendakaaDoor
open Go.RowKit

/-- All that there was is as it was. -/
def Ext (w w' : World) : Prop := Below w.heap.size w w'
theorem Ext.refl (w : World) : Ext w w := Below.refl _ _
theorem Ext.trans {a b c : World} (h : Ext a b) (k : Ext b c) : Ext a c := Below.trans h (Below.mono k h.size)
theorem Ext.drew (w : World) : Ext w w.drew := Below.drew (Below.refl _ _)
theorem Ext.alloc (w : World) (o : Obj) : Ext w (w.alloc o) := (Below.refl _ _).alloc (Nat.le_refl _) o
theorem Ext.block {a b : World} (h : Ext a b) {g : Nat} {o : Obj} (hg : a.heap[g]? = some o) : b.heap[g]? = some o := by
  rw [Below.block h g (Array.getElem?_eq_some_iff.1 hg).1, hg]
theorem Ext.row {a b : World} {g t n : Nat} {f : Nat → Value} (h : a.rowIs g t n f) (k : Ext a b) : b.rowIs g t n f := row_below h k h.lt

section
variable {P : Program} {ops : Array Oper} {Q : Exit → Act → World → Prop} {md : Region.Mode}

/-- What is asked of an operation carried out in the world w. -/
def madeUpon (P : Program) (w : World) (v : Value) : Result Next → Prop
  | .ok (.value u) w' => u = v ∧ Ext w w'
  | .ok (.enter f args) w' => Calls P f args w' fun e w'' => e = .returned v ∧ Ext w w''
  | _ => False
/-- One value in whatever world that has all that w has. -/
def Made (P : Program) (o : Oper) (v : Value) (a : Act) (w : World) : Prop := ∀ W, Ext w W → madeUpon P W v ((execOp a.eval o).run P W)
theorem Made.ext {o : Oper} {v : Value} {a : Act} {w w' : World} (h : Made P o v a w) (k : Ext w w') : Made P o v a w' := fun W hW => h W (k.trans hW)
def YieldsE (P : Program) (ops : Array Oper) (o : Oper) (v : Value) (a : Act) (w : World) : Prop :=
  (Region.wanted o (yielded ops a.tmps) = true ∧ Made P o v a w) ∨ (Region.wanted o (yielded ops a.tmps) = false ∧ v = undef)
theorem YieldsE.of_same {o : Oper} {v : Value} {a a' : Act} {w w' : World} (hy : YieldsE P ops o v a w) (k : Ext w w') (he : execOp a'.eval o = execOp a.eval o)
    (hw : Region.wanted o (yielded ops a'.tmps) = Region.wanted o (yielded ops a.tmps)) : YieldsE P ops o v a' w' := by
  unfold YieldsE at *
  rw [hw]
  refine hy.imp (fun ⟨h1, h2⟩ => ⟨h1, ?_⟩) id
  unfold Made at *
  rw [he]
  exact Made.ext h2 k
theorem Made.wp {o : Oper} {v : Value} {a : Act} {w W : World} (h : Made P o v a w) (k : Ext w W) {K : Act → World → Prop} (hK : ∀ W', Ext W W' → K (a.put o.dst v) W') : o.wp P a W K Q := by
  have h1 := h W k
  unfold Oper.wp
  generalize (execOp a.eval o).run P W = r at *
  cases r with
  | ok n w' =>
    cases n <;> simp only [madeUpon] at h1 <;> simp only [Oper.upon]
    case value u => obtain ⟨rfl, e⟩ := h1; exact hK _ e
    case enter f args => exact h1.mono fun e w'' ⟨he, hw⟩ => by subst he; exact hK _ hw
  | halt x w' => simp only [madeUpon] at h1
theorem YieldsE.wpOp {i : Nat} {o : Oper} {v : Value} {a : Act} {w W : World} (hi : ops[i]? = some o) (hy : YieldsE P ops o v a w) (k : Ext w W)
    {K : Act → World → Prop} (h : ∀ W', Ext W W' → K (a.put o.dst v) W') : wpOp P ops Q i K a W := by
  unfold Go.wpOp
  simp only [hi]
  rcases hy with ⟨hw, hv⟩ | ⟨hw, rfl⟩
  · simp only [hw, if_true]; exact .inl (hv.wp k h)
  · simp only [hw, Bool.false_eq_true, if_false]; exact h W (Ext.refl W)

/-- Another operation, apart from it: it makes no difference which of both is carried out first. -/
theorem wpOp_putE {j : Nat} {oi oj : Oper} {v : Value} (hj : ops[j]? = some oj) (hap : oi.apart ops oj = true)
    (hsi : ∀ cs b, oi.op ≠ .select cs b) (hsj : ∀ cs b, oj.op ≠ .select cs b)
    (hQ : ∀ c a w, Q (.panic c) (a.put oi.dst v) w → Q (.panic c) a w) {K : Act → World → Prop} {a : Act} {w : World}
    (hK : ∀ a' w', K a' w' → Ext w w') (hy : YieldsE P ops oi v a w) (h : wpOp P ops Q j K (a.put oi.dst v) w) :
    wpOp P ops Q j (fun a' w' => YieldsE P ops oi v a' w' ∧ K (a'.put oi.dst v) w') a w := by
  obtain ⟨h1, h2, h3⟩ := Oper.apart_spec hap
  have keep : ∀ (a' : Act) (u : Value) (w' : World), YieldsE P ops oi v a' w → Ext w w' → YieldsE P ops oi v (a'.put oj.dst u) w' := fun a' u w' hy k =>
    hy.of_same k (execOp_put oi hsi a' oj.dst u h3) (wanted_put oi a' oj.dst u h3)
  have keepD : ∀ d, YieldsE P ops oi v { a with defers := d :: a.defers } w := fun d => hy.of_same (Ext.refl w) rfl rfl
  unfold wpOp at *
  simp only [hj] at *
  rw [wanted_put oj a oi.dst v h1] at h
  split
  · rename_i hw
    simp only [hw, if_true] at h
    rcases h with h | ⟨hasks, hlets⟩
    case inr => exact .inr ⟨by unfold Oper.asks at *; rw [execOp_put oj hsj a oi.dst v h1] at hasks; exact hasks, hlets⟩
    refine .inl ?_
    unfold Oper.wp at *
    rw [execOp_put oj hsj a oi.dst v h1] at h
    generalize (execOp a.eval oj).run P w = r at *
    have fin : ∀ u w', K ((a.put oi.dst v).put oj.dst u) w' → YieldsE P ops oi v (a.put oj.dst u) w' ∧ K ((a.put oj.dst u).put oi.dst v) w' := fun u w' hk =>
      ⟨keep a u w' hy (hK _ _ hk), by rw [← Act.put_comm a v u h2]; exact hk⟩
    cases r with
    | ok n w' =>
      cases n <;> simp only [Oper.upon] at h ⊢
      case value u => exact fin u w' h
      case skip => exact fin undef w' h
      case defer d =>
        refine ⟨keep _ _ w' (keepD d) (hK _ _ h), ?_⟩
        rw [← Act.put_comm _ v undef h2, ← Act.put_defers]
        exact h
      case enter f args =>
        refine Calls.mono h fun e w'' he => ?_
        cases e with
        | returned u => exact fin u w'' he
        | panicked c => exact hQ _ _ _ he
        | outgrown => exact he
      case row row args => exact Rows.mono h fun u w'' he => fin u w'' he
    | halt x w' =>
      cases x <;> simp only [Oper.upon] at h ⊢
      case panic u => exact hQ _ _ _ h
  · rename_i hw
    simp only [hw] at h
    exact ⟨keep a undef w hy (Ext.refl w), by rw [← Act.put_comm a v undef h2]; exact h⟩

/-- Whatever order is picked from here on, in whatever world that has all that w has; operations below n keep all that there was. -/
def wpG (P : Program) (md : Region.Mode) (ops : Array Oper) (Q : Exit → Act → World → Prop) (n : Nat) : Nat → Array Bool → Act → World → Prop
  | 0, listed, a, w => Region.ready md ops listed = [] ∧ ∀ W, Ext w W → Q .normal a W
  | fuel + 1, listed, a, w =>
    (Region.ready md ops listed = [] → ∀ W, Ext w W → Q .normal a W) ∧
    ∀ i ∈ Region.ready md ops listed, ∀ W, Ext w W → wpOp P ops Q i (fun a' W' => (i < n → Ext W W') ∧ wpG P md ops Q n fuel (listed.setIfInBounds i true) a' W') a W
theorem wpG.ext {n : Nat} : ∀ {f : Nat} {listed : Array Bool} {a : Act} {w w' : World}, wpG P md ops Q n f listed a w → Ext w w' → wpG P md ops Q n f listed a w'
  | 0, _, _, _, _, h, k => ⟨h.1, fun W hW => h.2 W (k.trans hW)⟩
  | _ + 1, _, _, _, _, h, k => ⟨fun h0 W hW => h.1 h0 W (k.trans hW), fun i hi W hW => h.2 i hi W (k.trans hW)⟩
theorem wpAny_of_G {n : Nat} : ∀ (f : Nat) (listed : Array Bool) (a : Act) (w : World), wpG P md ops Q n f listed a w → wpAny P md ops Q f listed a w
  | 0, _, _, w, h => ⟨h.1, h.2 w (Ext.refl w)⟩
  | f + 1, _, _, w, h => ⟨fun h0 => h.1 h0 w (Ext.refl w), fun i hi => wpOp_mono (fun a' w' hk => wpAny_of_G f _ a' w' hk.2) (h.2 i hi w (Ext.refl w))⟩

/-- What has come up came up behind what it waits for. -/
def Closed (md : Region.Mode) (ops : Array Oper) (listed : Array Bool) : Prop :=
  listed.size = ops.size ∧ ∀ j oj, ops[j]? = some oj → listed.getD j false = true → ∀ e ∈ oj.after, Region.binds md e = true → listed.getD e.on false = true
theorem Closed.set {i : Nat} {listed : Array Bool} (inv : Closed md ops listed) (hi : i ∈ Region.ready md ops listed) : Closed md ops (listed.setIfInBounds i true) := by
  obtain ⟨_, oi, hoi, hall⟩ := mem_ready.1 hi
  refine ⟨by simp [inv.1], fun j oj hj hl e he hb => ?_⟩
  by_cases hij : i = j
  · subst hij
    have : oj = oi := Option.some.inj (hj.symm.trans hoi)
    subst this
    exact getD_set_true (hall e he hb)
  · rw [getD_set_ne false hij] at hl
    exact getD_set_true (inv.2 j oj hj hl e he hb)
/-- The first m operations are all waited for by the last of them, and that one by all from n on. -/
def lateB (md : Region.Mode) (ops : Array Oper) (m n : Nat) : Bool :=
  ((List.range (m - 1)).all fun i => (List.range m).any fun j => decide (i < j) && Region.waitsFor md ops j i) &&
  ((List.range ops.size).all fun t => decide (t < n) || Region.waitsFor md ops t (m - 1))
theorem late_one {m n : Nat} {listed : Array Bool} (hB : lateB md ops m n = true) (inv : Closed md ops listed) :
    ∀ (d i : Nat), m - 1 - i = d → i < m → listed.getD i false = false → listed.getD (m - 1) false = false := by
  intro d
  induction d using Nat.strongRecOn with
  | _ d ih =>
    intro i hd hi hun
    by_cases hl : i = m - 1
    · subst hl; exact hun
    · simp only [lateB, Bool.and_eq_true] at hB
      have h1 := List.all_eq_true.1 hB.1 i (List.mem_range.2 (by omega))
      obtain ⟨j, hj, hj2⟩ := List.any_eq_true.1 h1
      simp only [Bool.and_eq_true, decide_eq_true_eq] at hj2
      have hjm := List.mem_range.1 hj
      obtain ⟨oj, hoj, e, he, hb, hon⟩ := Region.waitsFor_spec hj2.2
      refine ih (m - 1 - j) (by omega) j rfl hjm ?_
      cases h2 : listed.getD j false with
      | false => rfl
      | true =>
        have h3 := inv.2 j oj hoj h2 e he hb
        rw [hon, hun] at h3
        cases h3
theorem late_spec {m n i : Nat} {listed : Array Bool} (hB : lateB md ops m n = true) (inv : Closed md ops listed) (hi : i < m) (hun : listed.getD i false = false)
    {t : Nat} (ht : t ∈ Region.ready md ops listed) : t < n := by
  have h0 := late_one hB inv _ i rfl hi hun
  simp only [lateB, Bool.and_eq_true] at hB
  obtain ⟨_, ot, hot, hall⟩ := mem_ready.1 ht
  have h1 := List.all_eq_true.1 hB.2 t (List.mem_range.2 (Array.getElem?_eq_some_iff.1 hot).1)
  simp only [Bool.or_eq_true, decide_eq_true_eq] at h1
  rcases h1 with h1 | h1
  · exact h1
  · obtain ⟨o', ho', e, he, hb, hon⟩ := Region.waitsFor_spec h1
    have : o' = ot := Option.some.inj (ho'.symm.trans hot)
    subst this
    have h2 := hall e he hb
    rw [hon, h0] at h2
    cases h2

/-- **What may come up, and yields one value, may be taken first.** -/
theorem G_first {i m n : Nat} {oi : Oper} {v : Value} (hi : ops[i]? = some oi) (hsel : ∀ (j : Nat) (o : Oper) cs b, ops[j]? = some o → o.op ≠ .select cs b)
    (hQ : ∀ c a w, Q (.panic c) (a.put oi.dst v) w → Q (.panic c) a w) (hB : lateB md ops m n = true) (him : i < m) :
    ∀ (fuel : Nat) (listed : Array Bool) (a : Act) (w : World), Closed md ops listed →
      (∀ j oj, ops[j]? = some oj → j ≠ i → listed.getD j true = false → (∀ e ∈ oj.after, Region.binds md e = true → e.on ≠ i) → oi.apart ops oj = true) →
      i ∈ Region.ready md ops listed → YieldsE P ops oi v a w →
      wpG P md ops Q n fuel (listed.setIfInBounds i true) (a.put oi.dst v) w → wpG P md ops Q n (fuel + 1) listed a w := by
  intro fuel
  induction fuel with
  | zero =>
    intro listed a w _ _ hr hy H
    refine ⟨fun h => (by rw [h] at hr; cases hr), fun j hj W hW => ?_⟩
    by_cases hji : j = i
    · subst hji; exact hy.wpOp hi hW fun W' hW' => ⟨fun _ => hW', H.ext (hW.trans hW')⟩
    · have := ready_mono hj hji
      rw [H.1] at this
      cases this
  | succ fuel ih =>
    intro listed a w inv hfree hr hy H
    refine ⟨fun h => (by rw [h] at hr; cases hr), fun j hj W hW => ?_⟩
    by_cases hji : j = i
    · subst hji; exact hy.wpOp hi hW fun W' hW' => ⟨fun _ => hW', H.ext (hW.trans hW')⟩
    · have hun := getD_both (mem_ready.1 hr).1
      have hjn : j < n := late_spec hB inv him hun hj
      have h1 := H.2 j (ready_mono hj hji) W hW
      obtain ⟨hjun, oj, hoj, hall⟩ := mem_ready.1 hj
      have hnot : ∀ e ∈ oj.after, Region.binds md e = true → e.on ≠ i := fun e he hb heq => by
        have h2 := hall e he hb
        rw [heq, hun] at h2
        cases h2
      have h2 := wpOp_putE hoj (hfree j oj hoj hji hjun hnot) (fun cs b => hsel i oi cs b hi) (fun cs b => hsel j oj cs b hoj) hQ (fun a' w' hk => hk.1 hjn)
        (hy.of_same hW rfl rfl) h1
      have hfree' : ∀ k ok, ops[k]? = some ok → k ≠ i → (listed.setIfInBounds j true).getD k true = false →
          (∀ e ∈ ok.after, Region.binds md e = true → e.on ≠ i) → oi.apart ops ok = true := fun k ok hk hki hunk hno => by
        refine hfree k ok hk hki ?_ hno
        by_cases hjk : j = k
        · subst hjk; exact hjun
        · rw [getD_set_ne true hjk] at hunk; exact hunk
      refine wpOp_mono (fun a' w' h3 => ⟨h3.2.1, ih (listed.setIfInBounds j true) a' w' (inv.set hj) hfree' (ready_mono hr (Ne.symm hji)) h3.1 ?_⟩) h2
      rw [Array.setIfInBounds_comm _ _ hji]
      exact h3.2.2

/-! ### the walk in the text's order -/
def wpMk (P : Program) (ops : Array Oper) (w : World) (R : Act → Prop) : List Oper → Act → Prop
  | [], a => R a
  | o :: rest, a => ∃ v, YieldsE P ops o v a w ∧ wpMk P ops w R rest (a.put o.dst v)
theorem mk_nil {w : World} {R : Act → Prop} {a : Act} (h : R a) : wpMk P ops w R [] a := h
theorem mk_step {w : World} {R : Act → Prop} {a : Act} {o : Oper} {rest : List Oper} (v : Value) (hg : o.guard = none) (hm : Made P o v a w) (h : wpMk P ops w R rest (a.put o.dst v)) : wpMk P ops w R (o :: rest) a :=
  ⟨v, .inl ⟨by simp [Region.wanted, hg], hm⟩, h⟩
theorem mk_want {w : World} {R : Act → Prop} {a : Act} {o : Oper} {rest : List Oper} (v : Value) (hg : Region.wanted o (yielded ops a.tmps) = true) (hm : Made P o v a w) (h : wpMk P ops w R rest (a.put o.dst v)) : wpMk P ops w R (o :: rest) a :=
  ⟨v, .inl ⟨hg, hm⟩, h⟩
theorem mk_skip {w : World} {R : Act → Prop} {a : Act} {o : Oper} {rest : List Oper} (hg : Region.wanted o (yielded ops a.tmps) = false) (h : wpMk P ops w R rest (a.put o.dst undef)) : wpMk P ops w R (o :: rest) a :=
  ⟨undef, .inr ⟨hg, rfl⟩, h⟩
def lexTo (md : Region.Mode) (ops : Array Oper) : Nat → Nat → Array Bool → Bool
  | 0, _, _ => true
  | f + 1, k, listed => (Region.ready md ops listed).contains k && Region.free md ops listed k && lexTo md ops f (k + 1) (listed.setIfInBounds k true)
def marked : Nat → Nat → Array Bool → Array Bool
  | 0, _, listed => listed
  | f + 1, k, listed => marked f (k + 1) (listed.setIfInBounds k true)
theorem G_lex {m n g : Nat} (hsel : Region.noSelect ops = true) (hQ : ∀ (o : Oper) v c a w, Q (.panic c) (a.put o.dst v) w → Q (.panic c) a w) (hB : lateB md ops m n = true) {w : World} {R : Act → Prop} {L : Array Bool}
    (hR : ∀ a, R a → wpG P md ops Q n g L a w) : ∀ (l : List Oper) (k : Nat) (listed : Array Bool) (a : Act), (∀ j, j < l.length → l[j]? = ops[k + j]?) → k + l.length = m → Closed md ops listed →
    lexTo md ops l.length k listed = true → marked l.length k listed = L → wpMk P ops w R l a → wpG P md ops Q n (l.length + g) listed a w
  | [], k, listed, a, _, _, _, _, hL, h => by
    have hL' : listed = L := hL
    subst hL'
    simpa using hR a h
  | o :: l, k, listed, a, hl, hk, inv, hX, hL, h => by
    have h0 : ops[k]? = some o := by simpa using (hl 0 (by simp)).symm
    simp only [List.length_cons, lexTo, Bool.and_eq_true] at hX
    obtain ⟨⟨hr, hf⟩, hX'⟩ := hX
    have hkm : k < m := by simp only [List.length_cons] at hk; omega
    have hr' : k ∈ Region.ready md ops listed := by simpa using hr
    obtain ⟨v, hy, hK⟩ := h
    rw [List.length_cons, show l.length + 1 + g = (l.length + g) + 1 by omega]
    exact G_first h0 (Region.noSelect_spec hsel) (hQ o v) hB hkm _ listed a w inv (Region.free_spec h0 hf) hr' hy
      (G_lex hsel hQ hB hR l (k + 1) _ _ (fun j hj => by have := hl (j + 1) (by simp; omega); simpa [Nat.add_assoc, Nat.add_comm 1 j] using this) (by simp only [List.length_cons] at hk; omega) (inv.set hr') hX' hL hK)

/-- The check on a region, by the kernel: its first m operations yield values; from n on it stores. -/
def madeB (l : List Oper) (m n : Nat) : Bool :=
  Region.noSelect l.toArray && decide (m ≤ l.length) && lateB .any l.toArray m n && lexTo .any l.toArray m 0 (Array.replicate l.length false)
/-- What is left once the first m have come up. -/
def Rest (P : Program) (l : List Oper) (Q : Exit → Act → World → Prop) (m n : Nat) (a : Act) (w : World) : Prop :=
  wpG P .any l.toArray Q n (l.length - m) (marked m 0 (Array.replicate l.length false)) a w
theorem wp_region_made {id m : Nat} (n : Nat) {a : Act} {w : World} {l : List Oper} (hm : P.follows .mixedOrders = true) (hB : madeB l m n = true)
    (hQ : ∀ (o : Oper) v c a w, Q (.panic c) (a.put o.dst v) w → Q (.panic c) a w)
    (h : wpMk P l.toArray w (fun a' => Rest P l Q m n a' w) (l.take m) a) : (Code.region id l.toArray true).wp P Q a w := by
  simp only [madeB, Bool.and_eq_true, decide_eq_true_eq] at hB
  obtain ⟨⟨⟨hsel, hml⟩, hlate⟩, hlex⟩ := hB
  have htl : (l.take m).length = m := by simp; omega
  have inv0 : Closed .any l.toArray (Array.replicate l.length false) :=
    ⟨by simp, fun j oj _ hl => (by rw [getD_replicate_false] at hl; cases hl)⟩
  have H := G_lex (P := P) (md := .any) (Q := Q) (g := l.length - m) (w := w) hsel hQ hlate (R := fun a' => Rest P l Q m n a' w) (L := marked m 0 (Array.replicate l.length false)) (fun a' h => h) (l.take m) 0 (Array.replicate l.length false) a (fun j hj => by
    have hj' : j < m := by rw [htl] at hj; exact hj
    simp [hj']) (by simpa using htl) inv0 (by rw [htl]; exact hlex) (by rw [htl]) h
  rw [htl, show m + (l.length - m) = l.length by omega] at H
  refine wp_region_any hm (wpAny_of_G (n := n) _ _ _ _ ?_)
  have := wpG.ext H (Ext.drew w)
  simpa using this

/-! ### what stands behind them -/
theorem wpOp_plain {i : Nat} {o : Oper} {K : Act → World → Prop} {a : Act} {w : World} (ho : ops[i]? = some o) (hg : o.guard = none) (h : o.wp P a w K Q) : wpOp P ops Q i K a w :=
  wpOp_step ho fun _ hK => by rw [if_pos (by simp [Region.wanted, hg])]; exact Oper.wp_mono hK h
theorem wp_alloc_made {o : Oper} {a : Act} {w : World} {K : Act → World → Prop} {ty : TypeId} {zs : Array Value} {t : TypeId} (ho : o.op = .alloc ty)
    (hz : ∀ W, (Instr.alloc ty true (.tuple #[])).run P W = .ok (.pointer (some ⟨W.heap.size, 0, none⟩)) (W.alloc (.cells zs t)))
    (h : K (a.put o.dst (.pointer (some ⟨w.heap.size, 0, none⟩))) (w.alloc (.cells zs t))) : o.wp P a w K Q := by
  unfold Oper.wp execOp
  simp only [ho, Sem.run_bind, hz w, Result.andThen_ok, Sem.run_pure]
  exact h
theorem heap_new (w : World) (o : Obj) : (w.alloc o).heap[w.heap.size]? = some o := by
  show (w.heap.push o)[w.heap.size]? = _
  simp
theorem ext_setRow {w W : World} {g : Nat} (h : Ext w W) (hg : w.heap.size ≤ g) (cs : Array Value) : Ext w (W.setRow g cs) := below_setRow h hg cs
theorem but_setRow {w W : World} {r : Nat} (h : But r w W) (cs : Array Value) : But r w (W.setRow r cs) :=
  ⟨h.os, h.tape, h.output, by simpa [World.setRow] using h.size, fun k hk hne => (setRow_far W cs (by simpa using hne)).trans (h.block k hk hne)⟩
theorem but_ext {w W : World} {r : Nat} (h : Ext w W) : But r w W := But.of_below h
theorem but_more {w W W' : World} {r : Nat} (h : But r w W) (k : Ext W W') : But r w W' := h.below k
abbrev ptrTo (g : Nat) : Value := .pointer (some ⟨g, 0, none⟩)

section
variable {l : List Oper} {m : Nat} {a : Act} {w : World} {ty t : TypeId} {zs cells old : Array Value} {d : Tmp} {y x : Operand} {r : Nat}
theorem rest_done (hlen : l.length = m) (hr : Region.ready .any l.toArray (marked m 0 (Array.replicate l.length false)) = []) (h : ∀ W, Ext w W → Q .normal a W) : Rest P l Q m m a w := by
  unfold Rest
  rw [hlen, Nat.sub_self]
  rw [hlen] at hr
  exact ⟨hr, h⟩
theorem rest_store (os : Oper) (hlen : l.length = m + 1) (hos : l.toArray[m]? = some os) (ho : os.op = .store ty x y) (hd : os.dst = none) (hg : os.guard = none)
    (hr : Region.ready .any l.toArray (marked m 0 (Array.replicate l.length false)) = [m]) (hr2 : Region.ready .any l.toArray (marked (m + 1) 0 (Array.replicate l.length false)) = [])
    (hmk : (marked m 0 (Array.replicate l.length false)).setIfInBounds m true = marked (m + 1) 0 (Array.replicate l.length false))
    (hx : a.eval x = ptrTo r) (hy : a.eval y = .agg cells) (hb : w.heap[r]? = some (.cells old t (0, 0))) (hi : (P.info? ty).map (·.size) = some cells.size) (hold : old.size = cells.size) (h1 : cells.all (·.oneCell') = true)
    (h : ∀ W, But r w W → W.heap[r]? = some (.cells cells t (0, 0)) → Q .normal a W) : Rest P l Q m m a w := by
  unfold Rest
  rw [show l.length - m = 0 + 1 by omega]
  refine ⟨fun h0 => (by rw [hr] at h0; cases h0), fun i hi' W hW => ?_⟩
  rw [hr] at hi'
  obtain rfl : i = m := by simpa using hi'
  refine wpOp_plain hos hg (wp_store_row ty x y ho r cells hx hy t old (hW.block hb) hi hold h1 ⟨fun h0 => absurd h0 (Nat.lt_irrefl _), ?_⟩)
  rw [hmk]
  refine ⟨hr2, fun W2 hW2 => ?_⟩
  rw [hd]
  exact h W2 (but_more (but_setRow (but_ext hW) cells) hW2) (hW2.block (setRow_heap W r old cells t (0, 0) (hW.block hb)))
theorem rest_store1 {v : Value} {z : Operand} (os oe : Oper) (hlen : l.length = m + 2) (hos : l.toArray[m]? = some os) (hoe : l.toArray[m + 1]? = some oe) (ho : os.op = .store ty x y) (hoe2 : oe.op = .assign z) (hd : os.dst = none) (hde : oe.dst = some d) (hg : os.guard = none) (hge : oe.guard = none)
    (hr : Region.ready .any l.toArray (marked m 0 (Array.replicate l.length false)) = [m]) (hr1 : Region.ready .any l.toArray (marked (m + 1) 0 (Array.replicate l.length false)) = [m + 1]) (hr2 : Region.ready .any l.toArray (marked (m + 2) 0 (Array.replicate l.length false)) = [])
    (hmk : (marked m 0 (Array.replicate l.length false)).setIfInBounds m true = marked (m + 1) 0 (Array.replicate l.length false))
    (hmk1 : (marked (m + 1) 0 (Array.replicate l.length false)).setIfInBounds (m + 1) true = marked (m + 2) 0 (Array.replicate l.length false))
    (hx : a.eval x = ptrTo r) (hy : a.eval y = .agg cells) (hz : a.eval z = v) (hb : w.heap[r]? = some (.cells old t (0, 0))) (hi : (P.info? ty).map (·.size) = some cells.size) (hold : old.size = cells.size) (h1 : cells.all (·.oneCell') = true)
    (h : ∀ W, But r w W → W.heap[r]? = some (.cells cells t (0, 0)) → Q .normal (a.put (some d) v) W) : Rest P l Q m m a w := by
  unfold Rest
  rw [show l.length - m = 0 + 1 + 1 by omega]
  refine ⟨fun h0 => (by rw [hr] at h0; cases h0), fun i hi' W hW => ?_⟩
  rw [hr] at hi'
  obtain rfl : i = m := by simpa using hi'
  refine wpOp_plain hos hg (wp_store_row ty x y ho r cells hx hy t old (hW.block hb) hi hold h1 ⟨fun h0 => absurd h0 (Nat.lt_irrefl _), ?_⟩)
  rw [hmk, hd]
  refine ⟨fun h0 => (by rw [hr1] at h0; cases h0), fun j hj' W1 hW1 => ?_⟩
  rw [hr1] at hj'
  obtain rfl : j = i + 1 := by simpa using hj'
  refine wpOp_plain hoe hge ?_
  have he : (execOp a.eval oe).run P W1 = .ok (.value v) W1 := by
    unfold execOp
    simp only [hoe2, hz, Sem.run_pure]
  unfold Oper.wp
  show oe.upon P a _ _ ((execOp a.eval oe).run P W1)
  rw [he, Oper.upon_value]
  refine ⟨fun h0 => (by omega), ?_⟩
  rw [hmk1, hde]
  refine ⟨hr2, fun W2 hW2 => ?_⟩
  exact h W2 (but_more (but_setRow (but_ext hW) cells) (hW1.trans hW2)) ((hW1.trans hW2).block (setRow_heap W r old cells t (0, 0) (hW.block hb)))
theorem rest_var (oa os : Oper) (hlen : l.length = m + 2) (hoa : l.toArray[m]? = some oa) (hos : l.toArray[m + 1]? = some os) (hoa2 : oa.op = .alloc ty) (ho : os.op = .store ty (.tmp d) y) (hda : oa.dst = some d) (hd : os.dst = none) (hga : oa.guard = none) (hg : os.guard = none)
    (hr : Region.ready .any l.toArray (marked m 0 (Array.replicate l.length false)) = [m]) (hr1 : Region.ready .any l.toArray (marked (m + 1) 0 (Array.replicate l.length false)) = [m + 1]) (hr2 : Region.ready .any l.toArray (marked (m + 2) 0 (Array.replicate l.length false)) = [])
    (hmk : (marked m 0 (Array.replicate l.length false)).setIfInBounds m true = marked (m + 1) 0 (Array.replicate l.length false))
    (hmk1 : (marked (m + 1) 0 (Array.replicate l.length false)).setIfInBounds (m + 1) true = marked (m + 2) 0 (Array.replicate l.length false))
    (hz : ∀ W, (Instr.alloc ty true (.tuple #[])).run P W = .ok (ptrTo W.heap.size) (W.alloc (.cells zs t)))
    (hx : ∀ g, (a.put (some d) (ptrTo g)).eval (.tmp d) = ptrTo g) (hy : ∀ g, (a.put (some d) (ptrTo g)).eval y = .agg cells) (hi : (P.info? ty).map (·.size) = some cells.size) (hold : zs.size = cells.size) (h1 : cells.all (·.oneCell') = true)
    (h : ∀ g W, w.heap.size ≤ g → W.heap[g]? = some (.cells cells t (0, 0)) → Ext w W → Q .normal (a.put (some d) (ptrTo g)) W) : Rest P l Q m (m + 1) a w := by
  unfold Rest
  rw [show l.length - m = 0 + 1 + 1 by omega]
  refine ⟨fun h0 => (by rw [hr] at h0; cases h0), fun i hi' W hW => ?_⟩
  rw [hr] at hi'
  obtain rfl : i = m := by simpa using hi'
  refine wpOp_plain hoa hga (wp_alloc_made hoa2 hz ⟨fun _ => Ext.alloc _ _, ?_⟩)
  rw [hmk, hda]
  refine ⟨fun h0 => (by rw [hr1] at h0; cases h0), fun j hj' W1 hW1 => ?_⟩
  rw [hr1] at hj'
  obtain rfl : j = i + 1 := by simpa using hj'
  refine wpOp_plain hos hg (wp_store_row ty _ y ho W.heap.size cells (hx _) (hy _) t zs (hW1.block (heap_new _ _)) hi hold h1 ⟨fun h0 => absurd h0 (Nat.lt_irrefl _), ?_⟩)
  rw [hmk1]
  refine ⟨hr2, fun W2 hW2 => ?_⟩
  rw [hd]
  exact h W.heap.size W2 (Below.size hW) (hW2.block (setRow_heap W1 _ zs cells t (0, 0) (hW1.block (heap_new _ _)))) ((ext_setRow ((hW.trans (Ext.alloc _ _)).trans hW1) (Below.size hW) cells).trans hW2)
theorem rest_two {ya yb : Operand} {da db : Tmp} {ca cb : Array Value} (oa ob sa sb : Oper) (hlen : l.length = m + 4) (hoa : l.toArray[m]? = some oa) (hob : l.toArray[m + 1]? = some ob) (hsa : l.toArray[m + 2]? = some sa) (hsb : l.toArray[m + 3]? = some sb)
    (hoa2 : oa.op = .alloc ty) (hob2 : ob.op = .alloc ty) (hsa2 : sa.op = .store ty (.tmp da) ya) (hsb2 : sb.op = .store ty (.tmp db) yb) (hda : oa.dst = some da) (hdb : ob.dst = some db) (hd : sa.dst = none) (hd' : sb.dst = none)
    (hga : oa.guard = none) (hgb : ob.guard = none) (hg : sa.guard = none) (hg' : sb.guard = none) (hne : da ≠ db)
    (hr : Region.ready .any l.toArray (marked m 0 (Array.replicate l.length false)) = [m, m + 1])
    (hra : Region.ready .any l.toArray ((marked m 0 (Array.replicate l.length false)).setIfInBounds m true) = [m + 1])
    (hrb : Region.ready .any l.toArray ((marked m 0 (Array.replicate l.length false)).setIfInBounds (m + 1) true) = [m])
    (hr2 : Region.ready .any l.toArray (marked (m + 2) 0 (Array.replicate l.length false)) = [m + 2]) (hr3 : Region.ready .any l.toArray (marked (m + 3) 0 (Array.replicate l.length false)) = [m + 3]) (hr4 : Region.ready .any l.toArray (marked (m + 4) 0 (Array.replicate l.length false)) = [])
    (hma : ((marked m 0 (Array.replicate l.length false)).setIfInBounds m true).setIfInBounds (m + 1) true = marked (m + 2) 0 (Array.replicate l.length false))
    (hm2 : (marked (m + 2) 0 (Array.replicate l.length false)).setIfInBounds (m + 2) true = marked (m + 3) 0 (Array.replicate l.length false))
    (hm3 : (marked (m + 3) 0 (Array.replicate l.length false)).setIfInBounds (m + 3) true = marked (m + 4) 0 (Array.replicate l.length false))
    (hz : ∀ W, (Instr.alloc ty true (.tuple #[])).run P W = .ok (ptrTo W.heap.size) (W.alloc (.cells zs t)))
    (hxa : ∀ g g', ((a.put (some da) (ptrTo g)).put (some db) (ptrTo g')).eval (.tmp da) = ptrTo g) (hxb : ∀ g g', ((a.put (some da) (ptrTo g)).put (some db) (ptrTo g')).eval (.tmp db) = ptrTo g')
    (hya : ∀ g g', ((a.put (some da) (ptrTo g)).put (some db) (ptrTo g')).eval ya = .agg ca) (hyb : ∀ g g', ((a.put (some da) (ptrTo g)).put (some db) (ptrTo g')).eval yb = .agg cb)
    (hia : (P.info? ty).map (·.size) = some ca.size) (hib : (P.info? ty).map (·.size) = some cb.size) (holda : zs.size = ca.size) (holdb : zs.size = cb.size) (h1a : ca.all (·.oneCell') = true) (h1b : cb.all (·.oneCell') = true)
    (h : ∀ g g' W, w.heap.size ≤ g → w.heap.size ≤ g' → W.heap[g]? = some (.cells ca t (0, 0)) → W.heap[g']? = some (.cells cb t (0, 0)) → Ext w W → Q .normal ((a.put (some da) (ptrTo g)).put (some db) (ptrTo g')) W) : Rest P l Q m (m + 2) a w := by
  -- what stands behind both variables
  have fin : ∀ g g' W, w.heap.size ≤ g → w.heap.size ≤ g' → g ≠ g' → W.heap[g]? = some (.cells zs t (0, 0)) → W.heap[g']? = some (.cells zs t (0, 0)) → Ext w W →
      wpG P .any l.toArray Q (m + 2) (0 + 1 + 1) (marked (m + 2) 0 (Array.replicate l.length false)) ((a.put (some da) (ptrTo g)).put (some db) (ptrTo g')) W := by
    intro g g' W hge hge' hgg hbg hbg' hW
    refine ⟨fun h0 => (by rw [hr2] at h0; cases h0), fun i hi' W1 hW1 => ?_⟩
    rw [hr2] at hi'
    obtain rfl : i = m + 2 := by simpa using hi'
    refine wpOp_plain hsa hg (wp_store_row ty _ ya hsa2 g ca (hxa g g') (hya g g') t zs (hW1.block hbg) hia holda h1a ⟨fun h0 => absurd h0 (Nat.lt_irrefl _), ?_⟩)
    rw [hm2, hd]
    refine ⟨fun h0 => (by rw [hr3] at h0; cases h0), fun j hj' W2 hW2 => ?_⟩
    rw [hr3] at hj'
    obtain rfl : j = m + 3 := by simpa using hj'
    have hb1 : (W1.setRow g ca).heap[g']? = some (.cells zs t (0, 0)) := by rw [setRow_far W1 ca (fun e => hgg e.symm)]; exact hW1.block hbg'
    have hb2 : (W1.setRow g ca).heap[g]? = some (.cells ca t (0, 0)) := setRow_heap W1 g zs ca t (0, 0) (hW1.block hbg)
    refine wpOp_plain hsb hg' (wp_store_row ty _ yb hsb2 g' cb (hxb g g') (hyb g g') t zs (hW2.block hb1) hib holdb h1b ⟨fun h0 => (by omega), ?_⟩)
    rw [hm3, hd']
    refine ⟨hr4, fun W3 hW3 => ?_⟩
    refine h g g' W3 hge hge' (hW3.block ?_) (hW3.block (setRow_heap W2 g' zs cb t (0, 0) (hW2.block hb1))) ?_
    · rw [setRow_far W2 cb hgg]; exact hW2.block hb2
    · exact (ext_setRow ((ext_setRow (hW.trans hW1) hge ca).trans hW2) hge' cb).trans hW3
  unfold Rest
  rw [show l.length - m = 0 + 1 + 1 + 1 + 1 by omega]
  refine ⟨fun h0 => (by rw [hr] at h0; cases h0), fun i hi' W hW => ?_⟩
  rw [hr] at hi'
  have hi2 : i = m ∨ i = m + 1 := by simpa using hi'
  rcases hi2 with rfl | rfl
  · refine wpOp_plain hoa hga (wp_alloc_made hoa2 hz ⟨fun _ => Ext.alloc _ _, ?_⟩)
    rw [hda]
    refine ⟨fun h0 => (by rw [hra] at h0; cases h0), fun j hj' W1 hW1 => ?_⟩
    rw [hra] at hj'
    obtain rfl : j = i + 1 := by simpa using hj'
    refine wpOp_plain hob hgb (wp_alloc_made hob2 hz ⟨fun _ => Ext.alloc _ _, ?_⟩)
    rw [hdb, hma]
    have h2 : W.heap.size < W1.heap.size := by have := Below.size hW1; simp at this; omega
    exact fin _ _ _ (Below.size hW) (by have := Below.size hW; omega) (by omega) ((hW1.trans (Ext.alloc _ _)).block (heap_new _ _)) (heap_new _ _) ((hW.trans (Ext.alloc _ _)).trans (hW1.trans (Ext.alloc _ _)))
  · refine wpOp_plain hob hgb (wp_alloc_made hob2 hz ⟨fun _ => Ext.alloc _ _, ?_⟩)
    rw [hdb]
    refine ⟨fun h0 => (by rw [hrb] at h0; cases h0), fun j hj' W1 hW1 => ?_⟩
    rw [hrb] at hj'
    obtain rfl : j = m := by simpa using hj'
    refine wpOp_plain hoa hga (wp_alloc_made hoa2 hz ⟨fun _ => Ext.alloc _ _, ?_⟩)
    rw [hda, Array.setIfInBounds_comm _ _ (by omega), hma, Act.put_comm a _ _ (fun d h0 h1 => hne (by cases h0; cases h1; rfl))]
    have h2 : W.heap.size < W1.heap.size := by have := Below.size hW1; simp at this; omega
    exact fin _ _ _ (by have := Below.size hW; omega) (Below.size hW) (by omega) (heap_new _ _) ((hW1.trans (Ext.alloc _ _)).block (heap_new _ _)) ((hW.trans (Ext.alloc _ _)).trans (hW1.trans (Ext.alloc _ _)))
end

/-! ### a region in its own order -/
def PRest (P : Program) (l : List Oper) (Q : Exit → Act → World → Prop) (m : Nat) (a : Act) (w : World) : Prop := ∀ W, Ext w W → wpList P l.toArray Q (l.drop m) a W
theorem plain_lex {w : World} {R : Act → Prop} {rest : List Oper} (hR : ∀ a, R a → ∀ W, Ext w W → wpList P ops Q rest a W) : ∀ (l : List Oper) (a : Act), wpMk P ops w R l a → ∀ W, Ext w W → wpList P ops Q (l ++ rest) a W
  | [], a, h, W, hW => hR a h W hW
  | o :: l, a, ⟨v, hy, hK⟩, W, hW => wpList_step fun K hK' => by
    rcases hy with ⟨hw, hv⟩ | ⟨hw, rfl⟩
    · rw [if_pos hw]
      exact hv.wp hW fun W' hW' => hK' _ _ (plain_lex hR l _ hK W' (hW.trans hW'))
    · rw [if_neg (by simp [hw])]
      exact hK' _ _ (plain_lex hR l _ hK W hW)
theorem wp_region_plain {id : Nat} (m : Nat) {a : Act} {w : World} {l : List Oper} (h : wpMk P l.toArray w (fun a' => PRest P l Q m a' w) (l.take m) a) : (Code.region id l.toArray false).wp P Q a w := by
  refine wp_region_lit ?_
  have := plain_lex (P := P) (ops := l.toArray) (Q := Q) (w := w) (rest := l.drop m) (R := fun a' => PRest P l Q m a' w) (fun a' h => h) (l.take m) a h w (Ext.refl w)
  rwa [List.take_append_drop] at this
section
variable {l : List Oper} {m : Nat} {a : Act} {w : World} {ty t : TypeId} {zs cells old : Array Value} {d : Tmp} {y x : Operand} {r : Nat}
theorem prest_done (hlen : l.drop m = []) (h : ∀ W, Ext w W → Q .normal a W) : PRest P l Q m a w := fun W hW => by
  rw [hlen]
  exact wpList_nil (h W hW)
theorem prest_store (os : Oper) (hl : l.drop m = [os]) (ho : os.op = .store ty x y) (hd : os.dst = none) (hg : os.guard = none)
    (hx : a.eval x = ptrTo r) (hy : a.eval y = .agg cells) (hb : w.heap[r]? = some (.cells old t (0, 0))) (hi : (P.info? ty).map (·.size) = some cells.size) (hold : old.size = cells.size) (h1 : cells.all (·.oneCell') = true)
    (h : ∀ W, But r w W → W.heap[r]? = some (.cells cells t (0, 0)) → Q .normal a W) : PRest P l Q m a w := fun W hW => by
  rw [hl]
  refine wpList_plain hg fun K hK => wp_store_row ty x y ho r cells hx hy t old (hW.block hb) hi hold h1 (hK _ _ (wpList_nil ?_))
  rw [hd]
  exact h _ (but_setRow (but_ext hW) cells) (setRow_heap W r old cells t (0, 0) (hW.block hb))
theorem wpl_var {rest : List Oper} (oa os : Oper) (hoa2 : oa.op = .alloc ty) (ho : os.op = .store ty (.tmp d) y) (hda : oa.dst = some d) (hd : os.dst = none) (hga : oa.guard = none) (hg : os.guard = none)
    (hz : ∀ W, (Instr.alloc ty true (.tuple #[])).run P W = .ok (ptrTo W.heap.size) (W.alloc (.cells zs t)))
    (hx : ∀ g, (a.put (some d) (ptrTo g)).eval (.tmp d) = ptrTo g) (hy : ∀ g, (a.put (some d) (ptrTo g)).eval y = .agg cells) (hi : (P.info? ty).map (·.size) = some cells.size) (hold : zs.size = cells.size) (h1 : cells.all (·.oneCell') = true)
    (h : ∀ g W, w.heap.size ≤ g → W.heap[g]? = some (.cells cells t (0, 0)) → Ext w W → wpList P ops Q rest (a.put (some d) (ptrTo g)) W) : wpList P ops Q (oa :: os :: rest) a w := by
  refine wpList_plain hga fun K hK => wp_alloc_made hoa2 hz (hK _ _ ?_)
  refine wpList_plain hg fun K hK => ?_
  rw [hda]
  refine wp_store_row ty _ y ho w.heap.size cells (hx _) (hy _) t zs (heap_new _ _) hi hold h1 (hK _ _ ?_)
  rw [hd]
  exact h w.heap.size _ (Nat.le_refl _) (setRow_heap _ _ zs cells t (0, 0) (heap_new _ _)) (ext_setRow (Ext.alloc _ _) (Nat.le_refl _) cells)
theorem prest_var' {rest : List Oper} (oa os : Oper) (hl : l.drop m = oa :: os :: rest) (hoa2 : oa.op = .alloc ty) (ho : os.op = .store ty (.tmp d) y) (hda : oa.dst = some d) (hd : os.dst = none) (hga : oa.guard = none) (hg : os.guard = none)
    (hz : ∀ W, (Instr.alloc ty true (.tuple #[])).run P W = .ok (ptrTo W.heap.size) (W.alloc (.cells zs t)))
    (hx : ∀ g, (a.put (some d) (ptrTo g)).eval (.tmp d) = ptrTo g) (hy : ∀ g, (a.put (some d) (ptrTo g)).eval y = .agg cells) (hi : (P.info? ty).map (·.size) = some cells.size) (hold : zs.size = cells.size) (h1 : cells.all (·.oneCell') = true)
    (h : ∀ g W, w.heap.size ≤ g → W.heap[g]? = some (.cells cells t (0, 0)) → Ext w W → wpList P l.toArray Q rest (a.put (some d) (ptrTo g)) W) : PRest P l Q m a w := fun W hW => by
  rw [hl]
  exact wpl_var oa os hoa2 ho hda hd hga hg hz hx hy hi hold h1 fun g W' h1 h2 h3 => h g W' (Nat.le_trans (Below.size hW) h1) h2 (hW.trans h3)
theorem wpl_store {rest : List Oper} (os : Oper) (ho : os.op = .store ty x y) (hd : os.dst = none) (hg : os.guard = none)
    (hx : a.eval x = ptrTo r) (hy : a.eval y = .agg cells) (hb : w.heap[r]? = some (.cells old t (0, 0))) (hi : (P.info? ty).map (·.size) = some cells.size) (hold : old.size = cells.size) (h1 : cells.all (·.oneCell') = true)
    (h : ∀ W, But r w W → W.heap[r]? = some (.cells cells t (0, 0)) → wpList P ops Q rest a W) : wpList P ops Q (os :: rest) a w := by
  refine wpList_plain hg fun K hK => wp_store_row ty x y ho r cells hx hy t old hb hi hold h1 (hK _ _ ?_)
  rw [hd]
  exact h _ (but_setRow (But.refl _ _) cells) (setRow_heap w r old cells t (0, 0) hb)
theorem prest_store' {rest : List Oper} (os : Oper) (hl : l.drop m = os :: rest) (ho : os.op = .store ty x y) (hd : os.dst = none) (hg : os.guard = none)
    (hx : a.eval x = ptrTo r) (hy : a.eval y = .agg cells) (hb : w.heap[r]? = some (.cells old t (0, 0))) (hi : (P.info? ty).map (·.size) = some cells.size) (hold : old.size = cells.size) (h1 : cells.all (·.oneCell') = true)
    (h : ∀ W, But r w W → W.heap[r]? = some (.cells cells t (0, 0)) → wpList P l.toArray Q rest a W) : PRest P l Q m a w := fun W hW => by
  rw [hl]
  exact wpl_store os ho hd hg hx hy (hW.block hb) hi hold h1 fun W' h1 h2 => h W' ((but_ext hW).trans h1) h2
theorem prest_var (oa os : Oper) (hl : l.drop m = [oa, os]) (hoa2 : oa.op = .alloc ty) (ho : os.op = .store ty (.tmp d) y) (hda : oa.dst = some d) (hd : os.dst = none) (hga : oa.guard = none) (hg : os.guard = none)
    (hz : ∀ W, (Instr.alloc ty true (.tuple #[])).run P W = .ok (ptrTo W.heap.size) (W.alloc (.cells zs t)))
    (hx : ∀ g, (a.put (some d) (ptrTo g)).eval (.tmp d) = ptrTo g) (hy : ∀ g, (a.put (some d) (ptrTo g)).eval y = .agg cells) (hi : (P.info? ty).map (·.size) = some cells.size) (hold : zs.size = cells.size) (h1 : cells.all (·.oneCell') = true)
    (h : ∀ g W, w.heap.size ≤ g → W.heap[g]? = some (.cells cells t (0, 0)) → Ext w W → Q .normal (a.put (some d) (ptrTo g)) W) : PRest P l Q m a w := fun W hW => by
  rw [hl]
  refine wpList_plain hga fun K hK => wp_alloc_made hoa2 hz (hK _ _ ?_)
  refine wpList_plain hg fun K hK => ?_
  rw [hda]
  refine wp_store_row ty _ y ho W.heap.size cells (hx _) (hy _) t zs (heap_new _ _) hi hold h1 (hK _ _ (wpList_nil ?_))
  rw [hd]
  exact h W.heap.size _ (Below.size hW) (setRow_heap _ _ zs cells t (0, 0) (heap_new _ _)) (ext_setRow (hW.trans (Ext.alloc _ _)) (Below.size hW) cells)
end

/-- A call whose answer hangs on the world. -/
theorem wpl_fun {k : FuncId} {xs : List Operand} {ts : Array TypeId} {args : List Value} {rest : List Oper} {o : Oper} {a : Act} {w : World} {R : Value → World → Prop} (hg : o.guard = none)
    (ho : o.op = .call { callee := .value (.func k), args := xs.toArray, argTypes := ts }) (hx : xs.map a.eval = args)
    (he : ∀ W, (callFunc k args.toArray).run P W = .ok (.enter k args.toArray) W) (hc : Calls P k args.toArray w fun e W' => ∃ v, e = .returned v ∧ R v W') (h : ∀ v W', R v W' → wpList P ops Q rest (a.put o.dst v) W') : wpList P ops Q (o :: rest) a w := by
  refine wpList_plain hg fun K hK => ?_
  have h1 : execOp a.eval o = callFunc k (#[] ++ xs.toArray.map a.eval ++ #[]) := by
    cases o
    subst ho
    rfl
  have h2 : (execOp a.eval o).run P w = .ok (.enter k args.toArray) w := by
    rw [h1, List.map_toArray, hx]
    simpa using he w
  unfold Oper.wp
  rw [h2, Oper.upon_enter]
  refine hc.mono ?_
  rintro e W' ⟨v, rfl, hR⟩
  exact hK _ _ (h v W' hR)
/-- Two results, the first a struct or an array that lies in a block. -/
theorem results_row_tmp2 {fn : Func} {p s : Tmp} {ty : TypeId} (h : fn.results = #[.cell p ty, .tmp s]) (tmps : Array Value) (w : World) (g : Nat) (t : TypeId) (cs : Array Value) (fr : Nat × Nat) (d : TypeDesc)
    (hp : tmps.getD p undef = .pointer (some ⟨g, 0, none⟩)) (hg : w.heap[g]? = some (.cells cs t fr)) (hu : P.underlying ty = some d) (hd : d.isRow = true) (hi : (P.info? ty).map (·.size) = some cs.size) :
    (results fn tmps).run P w = .ok (.tuple #[.agg cs, tmps.getD s undef]) w := by
  have hp' : tmps[p]?.getD undef = .pointer (some ⟨g, 0, none⟩) := by simpa using hp
  have hl : (loadVar ty ⟨g, 0, none⟩).run P w = .ok (.agg cs) w := run_loadVar_mid w g 0 ty cs.toList d (fun j v hv => by rw [cell_of_row w g (0 + j) cs t fr hg, Nat.zero_add]; simpa using hv) hu hd (by simpa using hi)
  simp [results, h, hp', asAddr, hl]

/-! ### the walk's frame, kept from the rest -/
theorem mk_mono {w : World} {R R' : Act → Prop} (h : ∀ a, R a → R' a) : ∀ {l : List Oper} {a : Act}, wpMk P ops w R l a → wpMk P ops w R' l a
  | [], _, hh => h _ hh
  | _ :: _, _, ⟨v, hy, hK⟩ => ⟨v, hy, mk_mono h hK⟩
theorem mk_ops {w : World} {R : Act → Prop} : ∀ {l : List Oper} {a : Act}, (l.all fun o => o.guard.isNone) = true → wpMk P #[] w R l a → wpMk P ops w R l a
  | [], _, _, hh => hh
  | o :: l, a, hg, ⟨v, hy, hK⟩ => by
    simp only [List.all_cons, Bool.and_eq_true, Option.isNone_iff_eq_none] at hg
    refine ⟨v, ?_, mk_ops hg.2 hK⟩
    have h1 : ∀ X : Array Oper, Region.wanted o (yielded X a.tmps) = true := fun X => by simp [Region.wanted, hg.1]
    rcases hy with ⟨_, hm⟩ | ⟨hw, _⟩
    · exact .inl ⟨h1 _, hm⟩
    · rw [h1] at hw; cases hw
theorem wp_made {id m : Nat} {A : Act} (n : Nat) {a : Act} {w : World} {l : List Oper} (hm : P.follows .mixedOrders = true) (hB : madeB l m n = true) (hg : ((l.take m).all fun o => o.guard.isNone) = true)
    (h : wpMk P #[] w (fun a' => a' = A) (l.take m) a) (h2 : Rest P l (NoPanic Q) m n A w) : (Code.region id l.toArray true).wp P Q a w :=
  wp_region_noPanic (wp_region_made n hm hB (fun _ _ _ _ _ h => h) (mk_ops hg (mk_mono (fun a' e => by subst e; exact h2) h)))
theorem wp_plain {id m : Nat} {A : Act} {a : Act} {w : World} {l : List Oper} (hg : ((l.take m).all fun o => o.guard.isNone) = true)
    (h : wpMk P #[] w (fun a' => a' = A) (l.take m) a) (h2 : PRest P l Q m A w) : (Code.region id l.toArray false).wp P Q a w :=
  wp_region_plain m (mk_ops hg (mk_mono (fun a' e => by subst e; exact h2) h))
theorem wp_madeG {id m : Nat} {A : Act} (n : Nat) {a : Act} {w : World} {l : List Oper} (hm : P.follows .mixedOrders = true) (hB : madeB l m n = true)
    (h : wpMk P l.toArray w (fun a' => a' = A) (l.take m) a) (h2 : Rest P l (NoPanic Q) m n A w) : (Code.region id l.toArray true).wp P Q a w :=
  wp_region_noPanic (wp_region_made n hm hB (fun _ _ _ _ _ h => h) (mk_mono (fun a' e => by subst e; exact h2) h))
theorem wp_plainG {id m : Nat} {A : Act} {a : Act} {w : World} {l : List Oper}
    (h : wpMk P l.toArray w (fun a' => a' = A) (l.take m) a) (h2 : PRest P l Q m A w) : (Code.region id l.toArray false).wp P Q a w :=
  wp_region_plain m (mk_mono (fun a' e => by subst e; exact h2) h)
theorem mk_end {w : World} {a : Act} : wpMk P ops w (fun a' => a' = a) [] a := rfl

/-! ### operations -/
section
variable {o : Oper} {a : Act} {w : World}
theorem made_val {v : Value} (h : ∀ W, Ext w W → (execOp a.eval o).run P W = .ok (.value v) W) : Made P o v a w := fun W hW => by
  rw [h W hW]
  exact ⟨rfl, Ext.refl W⟩
theorem made_call {v : Value} {f : FuncId} {args : Array Value} (h : ∀ W, (execOp a.eval o).run P W = .ok (.enter f args) W) (hc : ∀ W, Ext w W → Calls P f args W fun e W' => e = .returned v ∧ Ext W W') : Made P o v a w := fun W hW => by
  rw [h W]
  exact hc W hW
theorem made_load {ty : TypeId} {x : Operand} {g off t : Nat} {C : Array Value} {cs : List Value} {fr : Nat × Nat} {d : TypeDesc} (ho : o.op = .load ty x) (hx : a.eval x = .pointer (some ⟨g, off, none⟩)) (hb : w.heap[g]? = some (.cells C t fr))
    (hcs : (C.toList.drop off).take cs.length = cs) (hu : P.underlying ty = some d) (hd : d.isRow = true) (hi : (P.info? ty).map (·.size) = some cs.length) : Made P o (.agg cs.toArray) a w := made_val fun W hW => by
  have hr : W.rangeAt g off cs := fun j v hv => by
    rw [cell_of_row W g (off + j) C t fr (hW.block hb)]
    have hj : j < cs.length := (List.getElem?_eq_some_iff.1 hv).1
    rw [← hcs, List.getElem?_take_of_lt hj, List.getElem?_drop] at hv
    simpa using hv
  unfold execOp
  simp only [ho, hx, Instr.loadAt, Instr.sureAddr, Sem.run_bind, Sem.run_pure, Result.andThen_ok, run_loadVar_mid W g off ty cs d hr hu hd hi]
theorem made_load1 {ty : TypeId} {x : Operand} {g off t : Nat} {C : Array Value} {v : Value} {fr : Nat × Nat} (ho : o.op = .load ty x) (hx : a.eval x = .pointer (some ⟨g, off, none⟩)) (hb : w.heap[g]? = some (.cells C t fr))
    (hcs : C[off]? = some v) (hn : ∀ W, (isAgg ty).run P W = .ok false W) : Made P o v a w := made_val fun W hW => by
  have hr : W.cell? ⟨g, off, none⟩ = some v := by rw [cell_of_row W g off C t fr (hW.block hb), hcs]
  have hl : (load ⟨g, off, none⟩).run P W = .ok v W := by simp [go_sem, hr]
  unfold execOp
  simp only [ho, hx, Instr.loadAt, Instr.sureAddr, Sem.run_bind, Sem.run_pure, Result.andThen_ok, loadVar, hn W, Bool.false_eq_true, if_false, hl]
theorem made_field {s : TypeId} {x : Operand} {f g off : Nat} (ho : o.op = .fieldAddr s x f) (hx : a.eval x = ptrTo g) (hf : ∀ W, (Instr.fieldAt s (ptrTo g) f).run P W = .ok (.pointer (some ⟨g, off, none⟩)) W) : Made P o (.pointer (some ⟨g, off, none⟩)) a w := made_val fun W _ => by
  unfold execOp
  simp only [ho, hx, Sem.run_bind, hf W, Result.andThen_ok, Sem.run_pure]
theorem made_move {x : Operand} {v : Value} (ho : o.op = .move x ∨ o.op = .assign x) (hx : a.eval x = v) : Made P o v a w := made_val fun W _ => by
  unfold execOp
  rcases ho with ho | ho <;> simp only [ho, hx, Sem.run_pure]
theorem made_build {ty : TypeId} {parts : List (Nat × Operand)} {vs : List (Nat × Value)} {v : Value} (ho : o.op = .build ty parts.toArray) (hx : parts.map (fun p => (p.1, a.eval p.2)) = vs)
    (hb : ∀ W, (Instr.build ty vs.toArray).run P W = .ok v W) : Made P o v a w := made_val fun W _ => by
  unfold execOp
  simp only [ho, List.map_toArray]
  rw [show (parts.map fun x => match x with | (i, x) => (i, a.eval x)) = vs from hx]
  simp only [Sem.run_bind, hb W, Result.andThen_ok, Sem.run_pure]
theorem made_func {k : FuncId} {x : Operand} {p : Value} (ho : o.op = .makeFunc (.func k) #[x] #[]) (hx : a.eval x = p) : Made P o (.func (.func k) #[p] #[]) a w := made_val fun W _ => by
  unfold execOp
  simp only [ho]
  generalize hr : a.eval = ρ at *
  have h1 : (#[x].map ρ) = #[p] := by simp [hx]
  rw [h1]
  simp [Instr.makeFunc, go_sem]
theorem made_pick {c x y : Operand} {b : Bool} {v : Value} (ho : o.op = .pick c x y) (hc : a.eval c = .bool b) (hx : (if b then a.eval x else a.eval y) = v) : Made P o v a w := made_val fun W _ => by
  unfold execOp
  simp only [ho]
  generalize a.eval = ρ at *
  subst hx
  rw [hc]
  cases b <;> simp [go_sem, asBool]
theorem made_not {ty : TypeId} {x : Operand} {b : Bool} (ho : o.op = .unOp .not ty x) (hx : a.eval x = .bool b) : Made P o (.bool (!b)) a w := made_val fun W _ => by
  unfold execOp
  simp only [ho]
  generalize a.eval = ρ at *
  rw [hx]
  simp [go_sem, Op.unary]
theorem made_ext {x : Operand} {i : Nat} {vs : Array Value} {v : Value} (ho : o.op = .extract x i) (hx : a.eval x = .tuple vs) (hv : vs[i]? = some v) : Made P o v a w := made_val fun W _ => by
  unfold execOp
  simp only [ho]
  generalize a.eval = ρ at *
  rw [hx]
  simp [Instr.extract, go_sem, hv]
theorem made_iface {ty : TypeId} {x : Operand} {v : Value} (ho : o.op = .makeInterface ty x) (hv : ∀ W, (Instr.makeInterface ty (a.eval x)).run P W = .ok v W) : Made P o v a w := made_val fun W _ => by
  unfold execOp
  simp only [ho, Sem.run_bind, hv W, Result.andThen_ok, Sem.run_pure]
end
end
end Go.Proofs.YthgenmoiendakaaDoor


/-
  Walks by the operations' own laws: numbers as cells, calls, comparisons (for any seat).
-/
namespace Go.Proofs.YthgenmoiendakaaDoor
open Go.RowKit

theorem infoN4 : (Tryd.prog.info? 24).map (·.size) = some 4 := by kernel_rfl
/-- A number; a scaled point; a point; the curve: their cells, and as values. -/
def nc (x : Nat) : Array Value := #[.int .u64 (wd (x) 0), .int .u64 (wd (x) 1), .int .u64 (wd (x) 2), .int .u64 (wd (x) 3)]
def nv (x : Nat) : Value := .agg (nc x)
theorem nc_one (x : Nat) : (nc x).all (·.oneCell') = true := by simp [nc, Value.oneCell']
theorem iN (x : Nat) : (Tryd.prog.info? 24).map (·.size) = some (nc x).size := by exact infoN4
theorem uN : Tryd.prog.underlying 24 = some (.array 4 22) := Tryd.underlying24
section
variable {P : Program} {o : Oper} {a : Act} {w : World}
theorem run_callFunc_in {f : FuncId} {fn : Func} {c : Code} (hf : P.funcs[f]? = some fn) (hname : (fn.name == "runtime.NumGoroutine") = false) (hb : fn.body = some c) (args : Array Value) (w : World) :
    (callFunc f args).run P w = .ok (.enter f args) w := by
  have hn : ¬ fn.name = "runtime.NumGoroutine" := by simpa using hname
  simp [callFunc, go_sem, hf, hb, hn]
theorem made_fun {k : FuncId} {xs : List Operand} {ts : Array TypeId} {args : List Value} {v : Value} (ho : o.op = .call { callee := .value (.func k), args := xs.toArray, argTypes := ts }) (hx : xs.map a.eval = args)
    (he : ∀ W, (callFunc k args.toArray).run P W = .ok (.enter k args.toArray) W) (hc : ∀ W, Ext w W → Calls P k args.toArray W fun e W' => e = .returned v ∧ Ext W W') : Made P o v a w :=
  made_call (fun W => by
    have h1 : execOp a.eval o = callFunc k (#[] ++ xs.toArray.map a.eval ++ #[]) := by
      cases o
      subst ho
      rfl
    rw [h1, List.map_toArray, hx]
    simpa using he W) hc
theorem made_by {k : FuncId} {xs : List Operand} {ts : Array TypeId} {args : List Value} {v p : Value} {f : Tmp} (ho : o.op = .call { callee := .value (.tmp f), args := xs.toArray, argTypes := ts }) (hf : a.eval (.tmp f) = .func (.func k) #[p] #[]) (hx : xs.map a.eval = args)
    (he : ∀ W, (callFunc k (p :: args).toArray).run P W = .ok (.enter k (p :: args).toArray) W) (hc : ∀ W, Ext w W → Calls P k (p :: args).toArray W fun e W' => e = .returned v ∧ Ext W W') : Made P o v a w :=
  made_call (fun W => by
    unfold execOp
    simp only [ho, resolve, hf, List.map_toArray, hx, Deferred.ofValue, Sem.run_bind, Sem.run_pure, Result.andThen_ok, invoke]
    simpa using he W) hc
theorem made_geq {x : Operand} {ty ty2 : TypeId} {c : Int} {v : Bool} (ho : o.op = .binOp .geq ty x (.const (.int .i64 0)) ty2) (hx : a.eval x = .int .i64 c) (hv : decide (0 ≤ c) = v) : Made P o (.bool v) a w := made_val fun W _ => by
  have h0 : a.eval (.const (.int .i64 0)) = .int .i64 0 := rfl
  unfold execOp
  simp only [ho]
  generalize a.eval = ρ at *
  subst hv
  rw [hx, h0]
  simp [go_sem, eqGuard]
theorem made_bin {op : BinOp} {x y : Operand} {ty ty2 : TypeId} {u v r : Value} (ho : o.op = .binOp op ty x y ty2) (hx : a.eval x = u) (hy : a.eval y = v)
    (hg : ∀ W, (eqGuard op ty x y u v).run P W = .ok () W) (hr : ∀ W, (binOp op ty u v).run P W = .ok r W) : Made P o r a w := made_val fun W _ => by
  unfold execOp
  simp only [ho, hx, hy, Sem.run_bind, hg W, Result.andThen_ok, hr W, Sem.run_pure]
theorem made_slice {ty : TypeId} {x : Operand} {lo hi mx : Option Operand} {u v : Value} (ho : o.op = .slice ty x lo hi mx) (hx : a.eval x = u)
    (h : ∀ W, (Instr.sliceAt ty u (lo.map a.eval) (hi.map a.eval) (mx.map a.eval)).run P W = .ok v W) : Made P o v a w := made_val fun W _ => by
  unfold execOp
  simp only [ho, hx, Sem.run_bind, h W, Result.andThen_ok, Sem.run_pure]
theorem neq_of {t : TypeId} {c d : Array Value} {b r : Bool} {W : World} (h : (binOp .eql t (.agg c) (.agg d)).run P W = .ok (.bool b) W) (hr : (!b) = r) : (binOp .neq t (.agg c) (.agg d)).run P W = .ok (.bool r) W := by
  subst hr
  have h1 : (do pure (Value.bool (← Op.equal t (.agg c) (.agg d))) : Sem Value).run P W = .ok (.bool b) W := h
  show (do pure (Value.bool (!(← Op.equal t (.agg c) (.agg d)))) : Sem Value).run P W = .ok (.bool (!b)) W
  simp only [Sem.run_bind, Sem.run_pure] at h1 ⊢
  generalize (Op.equal t (.agg c) (.agg d)).run P W = r at h1 ⊢
  cases r with
  | ok v w' =>
    simp only [Result.andThen_ok, Result.ok.injEq, Value.bool.injEq] at h1 ⊢
    exact ⟨by rw [h1.1], h1.2⟩
  | halt x w' => simp [Result.andThen] at h1
end
section
variable (W : World)
theorem hzN : (Instr.alloc 24 true (.tuple #[])).run Tryd.prog W = .ok (ptrTo W.heap.size) (W.alloc (.cells #[.int .u64 0, .int .u64 0, .int .u64 0, .int .u64 0] 24)) := by simp [Instr.alloc, go_sem]
theorem wd_z : wd 0 0 = 0 ∧ wd 0 1 = 0 ∧ wd 0 2 = 0 ∧ wd 0 3 = 0 := by decide
theorem bldN0 : (Instr.build 24 [].toArray).run Tryd.prog W = .ok (nv 0) W := by
  obtain ⟨h0, h1, h2, h3⟩ := wd_z
  unfold nv nc
  rw [h0, h1, h2, h3]
  simp [Instr.build, go_sem]
theorem bldN1 : (Instr.build 24 [(0, .int .u64 1)].toArray).run Tryd.prog W = .ok (nv 1) W := by
  unfold nv nc
  rw [show wd 1 0 = 1 by decide, show wd 1 1 = 0 by decide, show wd 1 2 = 0 by decide, show wd 1 3 = 0 by decide]
  simp [Instr.build, go_sem]
end
theorem heap_is {w : World} {o : Obj} {k : Nat} (hk : k = w.heap.size) : (w.alloc o).heap[k]? = some o := by subst hk; exact heap_new w o
theorem blocks1 (w : World) (A : Obj) : Ext w (w.alloc A) ∧ (w.alloc A).heap[w.heap.size]? = some A := ⟨Ext.alloc _ _, heap_is rfl⟩
theorem blocks2 (w : World) (A B : Obj) : Ext w ((w.alloc A).alloc B) ∧ ((w.alloc A).alloc B).heap[w.heap.size]? = some A ∧ ((w.alloc A).alloc B).heap[w.heap.size + 1]? = some B :=
  ⟨(Ext.alloc _ _).trans (Ext.alloc _ _), (Ext.alloc _ _).block (heap_is rfl), heap_is (by simp)⟩
theorem blocks3 (w : World) (A B C : Obj) : Ext w (((w.alloc A).alloc B).alloc C) ∧ (((w.alloc A).alloc B).alloc C).heap[w.heap.size]? = some A ∧ (((w.alloc A).alloc B).alloc C).heap[w.heap.size + 1]? = some B ∧ (((w.alloc A).alloc B).alloc C).heap[w.heap.size + 1 + 1]? = some C :=
  ⟨(Ext.alloc _ _).trans ((Ext.alloc _ _).trans (Ext.alloc _ _)), ((Ext.alloc _ _).trans (Ext.alloc _ _)).block (heap_is rfl), (Ext.alloc _ _).block (heap_is (by simp)), heap_is (by simp)⟩
theorem blocks4 (w : World) (A B C D : Obj) : Ext w ((((w.alloc A).alloc B).alloc C).alloc D) ∧ ((((w.alloc A).alloc B).alloc C).alloc D).heap[w.heap.size]? = some A ∧ ((((w.alloc A).alloc B).alloc C).alloc D).heap[w.heap.size + 1]? = some B ∧ ((((w.alloc A).alloc B).alloc C).alloc D).heap[w.heap.size + 1 + 1]? = some C ∧ ((((w.alloc A).alloc B).alloc C).alloc D).heap[w.heap.size + 1 + 1 + 1]? = some D :=
  ⟨(Ext.alloc _ _).trans ((Ext.alloc _ _).trans ((Ext.alloc _ _).trans (Ext.alloc _ _))), ((Ext.alloc _ _).trans ((Ext.alloc _ _).trans (Ext.alloc _ _))).block (heap_is rfl), ((Ext.alloc _ _).trans (Ext.alloc _ _)).block (heap_is (by simp)), (Ext.alloc _ _).block (heap_is (by simp)), heap_is (by simp)⟩
theorem Ext.new {w w1 W : World} {r : Nat} (h : Ext w w1) (k : But r w1 W) (hr : w.heap.size ≤ r) : Ext w W := Below.trans h (k.new hr (Below.size h))
theorem made_not' {P : Program} {o : Oper} {a : Act} {w : World} {ty : TypeId} {x : Operand} {b r : Bool} (ho : o.op = .unOp .not ty x) (hx : a.eval x = .bool b) (hr : (!b) = r) : Made P o (.bool r) a w := hr ▸ made_not ho hx
theorem wpl_load {P : Program} {ops : Array Oper} {Q : Exit → Act → World → Prop} {rest : List Oper} {o : Oper} {a : Act} {w : World} {ty : TypeId} {x : Operand} {g t : Nat} {C cs : Array Value} {fr : Nat × Nat} {d : TypeDesc} (hg : o.guard = none) (ho : o.op = .load ty x) (hx : a.eval x = ptrTo g) (hb : w.heap[g]? = some (.cells C t fr))
    (hcs : C = cs) (hu : P.underlying ty = some d) (hd : d.isRow = true) (hi : (P.info? ty).map (·.size) = some cs.size) (h : wpList P ops Q rest (a.put o.dst (.agg cs)) w) : wpList P ops Q (o :: rest) a w := by
  subst hcs
  refine wpList_load_mid hg ty x ho g 0 hx C.toList d (fun j v hv => by rw [cell_of_row w g (0 + j) C t fr hb, Nat.zero_add]; simpa using hv) hu hd (by simpa using hi) ?_
  simpa using h
theorem but_keep {w W : World} {g r : Nat} {o : Obj} (hB : But r w W) (hg : w.heap[g]? = some o) (hne : g ≠ r) : W.heap[g]? = some o := by
  rw [hB.block g (Array.getElem?_eq_some_iff.1 hg).1 (by intro e; simp at e; exact hne e), hg]
theorem made_len {o : Oper} {a : Act} {w : World} {x : Operand} {A : Option Addr} {n c : Nat} (ho : o.op = .call { callee := .builtin .len, args := [x].toArray, argTypes := #[40] }) (hx : a.eval x = .slice A n c) : Made Tryd.prog o (.int .i64 (n : Int)) a w := made_val fun W _ => by
  unfold execOp
  simp only [ho, resolve, List.map_toArray, List.map_cons, List.map_nil, hx, Sem.run_bind, Sem.run_pure, Result.andThen_ok, invoke, builtin]
  simp [Builtin.len_, go_sem]
theorem eqN {X : Nat} (W : World) : (binOp .eql 24 (nv X) (nv X)).run Tryd.prog W = .ok (.bool true) W := eql_num_same X W
theorem neN {X : Nat} (W : World) : (binOp .neq 24 (nv X) (nv X)).run Tryd.prog W = .ok (.bool false) W := neq_of (eqN W) rfl
theorem gN (X Y : Nat) (op : BinOp) (x y : Operand) (W : World) : (eqGuard op 24 x y (nv X) (nv Y)).run Tryd.prog W = .ok () W := by
  unfold nv nc
  cases op <;> simp [eqGuard, go_sem]
theorem hsN (X : Nat) : (#[.int .u64 0, .int .u64 0, .int .u64 0, .int .u64 0] : Array Value).size = (nc X).size := by simp [nc]
end Go.Proofs.YthgenmoiendakaaDoor


/-
  Regions that draw their order, walked by hand: a load and a conversion, the same in whatever world that has all that there was.
-/
namespace Go.Proofs.YthgenmoiendakaaDoor
open Go.RowKit

section
variable {P : Program} {ops : Array Oper} {o : Oper} {a : Act} {w : World}
theorem yif {v : Value} (hw : Region.wanted o (yielded ops a.tmps) = true) (h : ∀ W, Ext w W → (execOp a.eval o).run P W = .ok (.value v) W) : YieldsIf P ops (fun W => Ext w W) o v a := Or.inl ⟨hw, h⟩
theorem yif_load {ty : TypeId} {x : Operand} {g t : Nat} {C : Array Value} {fr : Nat × Nat} {d : TypeDesc} (hw : Region.wanted o (yielded ops a.tmps) = true) (ho : o.op = .load ty x) (hx : a.eval x = ptrTo g) (hb : w.heap[g]? = some (.cells C t fr))
    (hu : P.underlying ty = some d) (hd : d.isRow = true) (hi : (P.info? ty).map (·.size) = some C.size) : YieldsIf P ops (fun W => Ext w W) o (.agg C) a :=
  yieldsIf_load_mid hw ty x ho g 0 hx C.toList d (fun W hW j v hv => by rw [cell_of_row W g (0 + j) C t fr (hW.block hb), Nat.zero_add]; simpa using hv) hu hd (by simpa using hi)
theorem yif_load1 {ty : TypeId} {x : Operand} {g off t : Nat} {C : Array Value} {v : Value} {fr : Nat × Nat} (hw : Region.wanted o (yielded ops a.tmps) = true) (ho : o.op = .load ty x) (hx : a.eval x = .pointer (some ⟨g, off, none⟩)) (hb : w.heap[g]? = some (.cells C t fr))
    (hcs : C[off]? = some v) (hn : ∀ W, (isAgg ty).run P W = .ok false W) : YieldsIf P ops (fun W => Ext w W) o v a := yif hw fun W hW => by
  have hr : W.cell? ⟨g, off, none⟩ = some v := by rw [cell_of_row W g off C t fr (hW.block hb), hcs]
  have hl : (load ⟨g, off, none⟩).run P W = .ok v W := by simp [go_sem, hr]
  unfold execOp
  simp only [ho, hx, Instr.loadAt, Instr.sureAddr, Sem.run_bind, Sem.run_pure, Result.andThen_ok, loadVar, hn W, Bool.false_eq_true, if_false, hl]
theorem yif_conv {s t : TypeId} {x : Operand} {u v : Value} (hw : Region.wanted o (yielded ops a.tmps) = true) (ho : o.op = .convert s t x) (hx : a.eval x = u) (h : ∀ W, Ext w W → (convert s t u).run P W = .ok v W) : YieldsIf P ops (fun W => Ext w W) o v a := yif hw fun W hW => by
  unfold execOp
  simp only [ho, hx, Sem.run_bind, h W hW, Result.andThen_ok, Sem.run_pure]
end
end Go.Proofs.YthgenmoiendakaaDoor


/-
  clapperref06.code: the code with K of V, and what is behind it.
-/
namespace Go.Proofs.YthgenmoiendakaaDoor
open Go.RowKit

/-- Byte j of a code. -/
def nb (k : Nat → Nat) (n : Nat) (t : Nat → Nat) (m : Nat) : Nat → Nat := fun j => dByte (shaSt (macOut k n t m) 96) j
theorem nb_lt (k : Nat → Nat) (n : Nat) (t : Nat → Nat) (m j : Nat) : nb k n t m j < 256 := Nat.mod_lt _ (by decide)
theorem macD_nb (k : Nat → Nat) (n : Nat) (t : Nat → Nat) (m : Nat) : macD k n t m = arrOf 32 (fun i => .int .u8 (nb k n t m i : Nat)) := rfl

set_option maxRecDepth 100000 in
set_option maxHeartbeats 4000000 in
theorem code_calls (RS : RSum) (A B C : Option Addr) (cA cB cC m : Nat) (k v x : Nat → Nat) (hk : ∀ j, k j < 256) (hv : ∀ j, v j < 256) (hx : ∀ j, x j < 256) (hm : m ≤ 1000) (w : World)
    (hA : Src w A 32 k w.heap.size) (hB : Src w B 32 v w.heap.size) (hC : Src w C m x w.heap.size) :
    Calls Tryd.prog 20 #[.slice A 32 cA, .slice B 32 cB, .slice C m cC] w fun e w' => ∃ g, e = .returned (.slice (some ⟨g, 0, none⟩) 32 32) ∧ w.heap.size ≤ g ∧ w'.rowIs g 26 32 (fun j => .int .u8 (nb k 32 (cat v 32 x) (32 + m) j : Nat)) ∧ Below w.heap.size w w' := by
  obtain ⟨i8, hi8, hz0, hz1, hz2⟩ := info_parts infoB3
  have HI := veil (And.intro hi8 (And.intro hz0 (And.intro hz1 hz2)))
  clear hi8 hz0 hz1 hz2
  go_enter Tryd.func20, Tryd.ntmps20
  have hv1 : ∀ j, (Value.int .u8 (v j : Nat)).oneCell' = true := fun j => by simp [Value.oneCell']
  have hx1 : ∀ j, (Value.int .u8 (x j : Nat)).oneCell' = true := fun j => by simp [Value.oneCell']
  have hb0 : Below w.heap.size w (w.alloc (.cells #[] 5)) := (Below.refl _ _).alloc (Nat.le_refl _) _
  have h0 : Own (w.alloc (.cells #[] 5)) w.heap.size 5 (.slice (some ⟨w.heap.size, 0, none⟩) 0 0) 0 (fun _ => .int .u8 0) := Own.made w (Nat.le_refl _) (by simp) (fun i hi => by simp at hi)
  have HF := veil (from_now hB hb0)
  have HO := veil h0
  have HV := veil (And.intro hv1 hx1)
  have HS := veil (And.intro hA hC)
  have HB := veil hb0
  clear hv1 hx1 h0 hA hB hC hb0
  go_wp2_with (at_builtin; refine wpList_append_from _ rfl _ _ _ rfl w.heap.size 5 i8 (.int .u8 0) 1 Tryd.underlying40 HI.out.1 HI.out.2.1 HI.out.2.2.1 HI.out.2.2.2 rfl _ _ _ rfl HO.out B 32 cB rfl (fun j => .int .u8 (v j : Nat)) HF.out HV.out.1 (by unfold maxLen; omega) (by omega) (by simp) ?_)
  intro v1 w1 ho1 hg1 ha1
  have hb1 : Below w.heap.size w w1 := grown_below HB.out hg1 (by simp) (fun k e => (HO.out.lt e).1)
  have ho1 : Own w1 w.heap.size 5 v1 32 (fun j => .int .u8 (v j : Nat)) := ho1.congr (fun j _ => by simp)
  have HF2 := veil (from_now HS.out.2 hb1)
  have HO1 := veil ho1
  have HB1 := veil hb1
  clear ho1 hb1 hg1 ha1 HF HO HB
  go_wp2_with (at_builtin; refine wpList_append_from _ rfl _ _ _ rfl w.heap.size 5 i8 (.int .u8 0) 1 Tryd.underlying40 HI.out.1 HI.out.2.1 HI.out.2.2.1 HI.out.2.2.2 rfl _ _ _ rfl HO1.out C m cC rfl (fun j => .int .u8 (x j : Nat)) HF2.out HV.out.2 (by unfold maxLen; omega) (by omega) (Below.size HB1.out) ?_)
  intro v2 w2 ho2 hg2 ha2
  have hb2 : Below w.heap.size w w2 := grown_below HB1.out hg2 (Below.size HB1.out) (fun k e => (HO1.out.lt e).1)
  obtain ⟨A2, c2, rfl, hc2, hS2⟩ := src_own (g := w2.heap.size) (own_cat ho2) (fun b e => by have := (ho2.lt e).2; omega)
  have hS1 := src_now HS.out.1 hb2 (Below.size hb2)
  have KR := veil (rmac_calls RS A A2 32 cA (32 + m) c2 k (cat v 32 x) hk (fun j => by unfold cat; split; exact hv _; exact hx _) (by omega) (by omega) w2 hS1 hS2)
  obtain ⟨D, hD⟩ : ∃ D, D = macD k 32 (cat v 32 x) (32 + m) := ⟨_, rfl⟩
  have HSZ := veil (show D.size = 32 ∧ D.all (·.oneCell') = true ∧ (Tryd.prog.info? 26).map (·.size) = some D.size from by
    rw [hD]; exact ⟨dgst_size _ _, arrOf_one fun _ _ => rfl, by show _ = some (dgst _ _).size; rw [dgst_size]; exact infoD⟩)
  rw [← hD] at KR
  have HD := veil hD
  have HB2 := veil hb2
  clear hD ho2 hg2 ha2 hS1 hS2 HF2 HO1 HB1 HV HS HI hb2 RS hk hv hx
  go_wp2_with fail
  refine KR.out.mono ?_
  rintro e w3 ⟨rfl, hb3⟩
  have HB3 := veil (HB2.out.trans (hb3.mono (Below.size HB2.out)))
  clear hb3 KR HB2
  go_upto_region 2 with ((with_reducible refine at_none ?_); refine wpList_store_row rfl 26 _ _ rfl w3.heap.size D rfl rfl 26 _ (heap_alloc_last w3 _) HSZ.out.2.2 (by rw [HSZ.out.1]; rfl) HSZ.out.2.1 ?_; rw [World.setRow_alloc_new])
  have hrow : (w3.alloc (.cells D 26)).rowIs w3.heap.size 26 32 (fun j => .int .u8 (nb k 32 (cat v 32 x) (32 + m) j : Nat)) := by
    rw [HD.out, macD_nb]; exact row_made w3 32 26 _ rfl
  have HR := veil hrow
  clear hrow
  go_wp2
  go_ret
  exact ⟨_, rfl, Below.size HB3.out, HR.out, HB3.out.alloc (Below.size HB3.out) _⟩
end Go.Proofs.YthgenmoiendakaaDoor


/-
  clapperref06.May: is a number from 1 to n - 1?
-/
namespace Go.Proofs.YthgenmoiendakaaDoor
open Go.RowKit

theorem nn_top : Pt.nn < top := by decide +kernel
theorem nn_words : wd Pt.nn 0 = 17562291160714782033 ∧ wd Pt.nn 1 = 13611842547513532036 ∧ wd Pt.nn 2 = 18446744073709551615 ∧ wd Pt.nn 3 = 18446744069414584320 := by decide +kernel
set_option maxRecDepth 100000 in
set_option maxHeartbeats 1000000 in
theorem nn_is (w : World) : Calls Tryd.prog 16 #[] w fun e w' => e = .returned (nv Pt.nn) ∧ Ext w w' := by
  obtain ⟨l0, l1, l2, l3⟩ := nn_words
  unfold nv nc
  rw [l0, l1, l2, l3]
  clear l0 l1 l2 l3
  go_enter Tryd.func16, Tryd.ntmps16
  go_wp2
  exact bodyPost_ret (results_cell_row rfl _ _ w.heap.size 24 #[.int .u64 17562291160714782033, .int .u64 13611842547513532036, .int .u64 18446744073709551615, .int .u64 18446744069414584320] (0, 0) _ rfl (heap_alloc_last w _) Tryd.underlying24 rfl (by kernel_rfl)) rfl ⟨rfl, (Below.refl _ _).alloc (Nat.le_refl _) _⟩
theorem neN0 {X : Nat} (hX : X < top) (h0 : X ≠ 0) (W : World) : (binOp .neq 24 (nv X) (nv 0)).run Tryd.prog W = .ok (.bool true) W := by
  have e := eql_num hX top_pos W
  rw [decide_eq_false h0] at e
  exact neq_of e rfl
section
variable {P : Program} {o : Oper} {a : Act} {w : World}
theorem made_lss {x : Operand} {ty ty2 : TypeId} {c : Int} {v : Bool} (ho : o.op = .binOp .lss ty x (.const (.int .i64 0)) ty2) (hx : a.eval x = .int .i64 c) (hv : decide (c < 0) = v) : Made P o (.bool v) a w := made_val fun W _ => by
  have h0 : a.eval (.const (.int .i64 0)) = .int .i64 0 := rfl
  unfold execOp
  simp only [ho]
  generalize a.eval = ρ at *
  subst hv
  rw [hx, h0]
  simp [go_sem, eqGuard]
end
theorem cmpL {X Y : Nat} (h : X < Y) : decide (cmpN X Y < 0) = true := by unfold cmpN; rw [if_pos h]; rfl
theorem cmpG {X Y : Nat} (h : ¬ X < Y) : decide (cmpN X Y < 0) = false := by
  unfold cmpN
  rw [if_neg h]
  split <;> rfl
set_option maxRecDepth 100000 in
set_option maxHeartbeats 8000000 in
theorem may_zero  (w : World) :
    Calls Tryd.prog 7 #[nv 0] w fun e w' => e = .returned (.bool false) ∧ Ext w w' := by
  unfold nv nc
  go_enter Tryd.func7, Tryd.ntmps7
  go_upto_region 1 with (fail)
  obtain ⟨hx, b0⟩ := blocks1 w (.cells #[.int .u64 (wd (0) 0), .int .u64 (wd (0) 1), .int .u64 (wd (0) 2), .int .u64 (wd (0) 3)] 24)
  generalize w.alloc (.cells #[.int .u64 (wd (0) 0), .int .u64 (wd (0) 1), .int .u64 (wd (0) 2), .int .u64 (wd (0) 3)] 24) = w1 at *
  have b0 : w1.heap[w.heap.size]? = some (.cells (nc 0) 24 (0, 0)) := b0
  refine' wp_madeG (m := 10) (A := _) 10 (by kernel_rfl) (by kernel_rfl) ?h1 ?h2
  case h1 =>
    refine mk_step (nv 0) rfl (made_load rfl rfl b0 rfl uN rfl (iN _)) ?_
    simp only [Act.put, List.setIfInBounds_toArray, List.set_cons_zero, List.set_cons_succ]
    refine mk_step (nv 0) rfl (made_build rfl rfl (bldN0 ·)) ?_
    simp only [Act.put, List.setIfInBounds_toArray, List.set_cons_zero, List.set_cons_succ]
    refine mk_step (.bool false) rfl (made_bin rfl rfl rfl (gN _ _ _ _ _) neN) ?_
    simp only [Act.put, List.setIfInBounds_toArray, List.set_cons_zero, List.set_cons_succ]
    refine mk_step (.bool false) rfl (made_move (.inl rfl) rfl) ?_
    simp only [Act.put, List.setIfInBounds_toArray, List.set_cons_zero, List.set_cons_succ]
    refine mk_skip rfl ?_
    simp only [Act.put, List.setIfInBounds_toArray, List.set_cons_zero, List.set_cons_succ]
    refine mk_skip rfl ?_
    simp only [Act.put, List.setIfInBounds_toArray, List.set_cons_zero, List.set_cons_succ]
    refine mk_skip rfl ?_
    simp only [Act.put, List.setIfInBounds_toArray, List.set_cons_zero, List.set_cons_succ]
    refine mk_skip rfl ?_
    simp only [Act.put, List.setIfInBounds_toArray, List.set_cons_zero, List.set_cons_succ]
    refine mk_step (.bool false) rfl (made_pick rfl rfl rfl) ?_
    simp only [Act.put, List.setIfInBounds_toArray, List.set_cons_zero, List.set_cons_succ]
    refine mk_step (.bool false) rfl (made_move (.inr rfl) rfl) ?_
    simp only [Act.put, List.setIfInBounds_toArray, List.set_cons_zero, List.set_cons_succ]
    exact mk_end
  case h2 =>
    refine rest_done rfl (by kernel_rfl) ?_
    intro w2 hE
    refine NoPanic.normal ?_
    replace b0 := hE.block b0
    replace hx := hx.trans hE
    clear hE
    go_wp2
    go_ret
    exact ⟨rfl, hx⟩
set_option maxRecDepth 100000 in
set_option maxHeartbeats 8000000 in
theorem may_in (X : Nat) (hX : X < top) (h0 : X ≠ 0) (hl : X < Pt.nn) (w : World) :
    Calls Tryd.prog 7 #[nv X] w fun e w' => e = .returned (.bool true) ∧ Ext w w' := by
  have kX := veil hX
  have k0 := veil h0
  have kl := veil hl
  clear hX h0 hl
  unfold nv nc
  go_enter Tryd.func7, Tryd.ntmps7
  go_upto_region 1 with (fail)
  obtain ⟨hx, b0⟩ := blocks1 w (.cells #[.int .u64 (wd (X) 0), .int .u64 (wd (X) 1), .int .u64 (wd (X) 2), .int .u64 (wd (X) 3)] 24)
  generalize w.alloc (.cells #[.int .u64 (wd (X) 0), .int .u64 (wd (X) 1), .int .u64 (wd (X) 2), .int .u64 (wd (X) 3)] 24) = w1 at *
  have b0 : w1.heap[w.heap.size]? = some (.cells (nc X) 24 (0, 0)) := b0
  refine' wp_madeG (m := 10) (A := _) 10 (by kernel_rfl) (by kernel_rfl) ?h1 ?h2
  case h1 =>
    refine mk_step (nv X) rfl (made_load rfl rfl b0 rfl uN rfl (iN _)) ?_
    simp only [Act.put, List.setIfInBounds_toArray, List.set_cons_zero, List.set_cons_succ]
    refine mk_step (nv 0) rfl (made_build rfl rfl (bldN0 ·)) ?_
    simp only [Act.put, List.setIfInBounds_toArray, List.set_cons_zero, List.set_cons_succ]
    refine mk_step (.bool true) rfl (made_bin rfl rfl rfl (gN _ _ _ _ _) (neN0 kX.out k0.out ·)) ?_
    simp only [Act.put, List.setIfInBounds_toArray, List.set_cons_zero, List.set_cons_succ]
    refine mk_step (.bool true) rfl (made_move (.inl rfl) rfl) ?_
    simp only [Act.put, List.setIfInBounds_toArray, List.set_cons_zero, List.set_cons_succ]
    refine mk_want (nv X) rfl (made_load rfl rfl b0 rfl uN rfl (iN _)) ?_
    simp only [Act.put, List.setIfInBounds_toArray, List.set_cons_zero, List.set_cons_succ]
    refine mk_want (nv Pt.nn) rfl (made_fun (args := []) rfl rfl (fun W => run_callFunc_in Tryd.func16 rfl rfl _ W) (fun W hW => nn_is W)) ?_
    simp only [Act.put, List.setIfInBounds_toArray, List.set_cons_zero, List.set_cons_succ]
    refine mk_want (.int .i64 (cmpN X Pt.nn)) rfl (made_fun (args := [nv X, nv Pt.nn]) rfl rfl (fun W => run_callFunc_in Tryd.func15 rfl rfl _ W) (fun W hW => rcmp_calls X Pt.nn kX.out nn_top W)) ?_
    simp only [Act.put, List.setIfInBounds_toArray, List.set_cons_zero, List.set_cons_succ]
    refine mk_want (.bool true) rfl (made_lss rfl rfl (cmpL kl.out)) ?_
    simp only [Act.put, List.setIfInBounds_toArray, List.set_cons_zero, List.set_cons_succ]
    refine mk_step (.bool true) rfl (made_pick rfl rfl rfl) ?_
    simp only [Act.put, List.setIfInBounds_toArray, List.set_cons_zero, List.set_cons_succ]
    refine mk_step (.bool true) rfl (made_move (.inr rfl) rfl) ?_
    simp only [Act.put, List.setIfInBounds_toArray, List.set_cons_zero, List.set_cons_succ]
    exact mk_end
  case h2 =>
    refine rest_done rfl (by kernel_rfl) ?_
    intro w2 hE
    refine NoPanic.normal ?_
    replace b0 := hE.block b0
    replace hx := hx.trans hE
    clear hE
    go_wp2
    go_ret
    exact ⟨rfl, hx⟩
set_option maxRecDepth 100000 in
set_option maxHeartbeats 8000000 in
theorem may_out (X : Nat) (hX : X < top) (h0 : X ≠ 0) (hl : ¬ X < Pt.nn) (w : World) :
    Calls Tryd.prog 7 #[nv X] w fun e w' => e = .returned (.bool false) ∧ Ext w w' := by
  have kX := veil hX
  have k0 := veil h0
  have kl := veil hl
  clear hX h0 hl
  unfold nv nc
  go_enter Tryd.func7, Tryd.ntmps7
  go_upto_region 1 with (fail)
  obtain ⟨hx, b0⟩ := blocks1 w (.cells #[.int .u64 (wd (X) 0), .int .u64 (wd (X) 1), .int .u64 (wd (X) 2), .int .u64 (wd (X) 3)] 24)
  generalize w.alloc (.cells #[.int .u64 (wd (X) 0), .int .u64 (wd (X) 1), .int .u64 (wd (X) 2), .int .u64 (wd (X) 3)] 24) = w1 at *
  have b0 : w1.heap[w.heap.size]? = some (.cells (nc X) 24 (0, 0)) := b0
  refine' wp_madeG (m := 10) (A := _) 10 (by kernel_rfl) (by kernel_rfl) ?h1 ?h2
  case h1 =>
    refine mk_step (nv X) rfl (made_load rfl rfl b0 rfl uN rfl (iN _)) ?_
    simp only [Act.put, List.setIfInBounds_toArray, List.set_cons_zero, List.set_cons_succ]
    refine mk_step (nv 0) rfl (made_build rfl rfl (bldN0 ·)) ?_
    simp only [Act.put, List.setIfInBounds_toArray, List.set_cons_zero, List.set_cons_succ]
    refine mk_step (.bool true) rfl (made_bin rfl rfl rfl (gN _ _ _ _ _) (neN0 kX.out k0.out ·)) ?_
    simp only [Act.put, List.setIfInBounds_toArray, List.set_cons_zero, List.set_cons_succ]
    refine mk_step (.bool true) rfl (made_move (.inl rfl) rfl) ?_
    simp only [Act.put, List.setIfInBounds_toArray, List.set_cons_zero, List.set_cons_succ]
    refine mk_want (nv X) rfl (made_load rfl rfl b0 rfl uN rfl (iN _)) ?_
    simp only [Act.put, List.setIfInBounds_toArray, List.set_cons_zero, List.set_cons_succ]
    refine mk_want (nv Pt.nn) rfl (made_fun (args := []) rfl rfl (fun W => run_callFunc_in Tryd.func16 rfl rfl _ W) (fun W hW => nn_is W)) ?_
    simp only [Act.put, List.setIfInBounds_toArray, List.set_cons_zero, List.set_cons_succ]
    refine mk_want (.int .i64 (cmpN X Pt.nn)) rfl (made_fun (args := [nv X, nv Pt.nn]) rfl rfl (fun W => run_callFunc_in Tryd.func15 rfl rfl _ W) (fun W hW => rcmp_calls X Pt.nn kX.out nn_top W)) ?_
    simp only [Act.put, List.setIfInBounds_toArray, List.set_cons_zero, List.set_cons_succ]
    refine mk_want (.bool false) rfl (made_lss rfl rfl (cmpG kl.out)) ?_
    simp only [Act.put, List.setIfInBounds_toArray, List.set_cons_zero, List.set_cons_succ]
    refine mk_step (.bool false) rfl (made_pick rfl rfl rfl) ?_
    simp only [Act.put, List.setIfInBounds_toArray, List.set_cons_zero, List.set_cons_succ]
    refine mk_step (.bool false) rfl (made_move (.inr rfl) rfl) ?_
    simp only [Act.put, List.setIfInBounds_toArray, List.set_cons_zero, List.set_cons_succ]
    exact mk_end
  case h2 =>
    refine rest_done rfl (by kernel_rfl) ?_
    intro w2 hE
    refine NoPanic.normal ?_
    replace b0 := hE.block b0
    replace hx := hx.trans hE
    clear hE
    go_wp2
    go_ret
    exact ⟨rfl, hx⟩
/-- From 1 to n - 1. -/
def mayB (X : Nat) : Bool := decide (X ≠ 0) && decide (X < Pt.nn)
theorem may_calls (X : Nat) (hX : X < top) (w : World) : Calls Tryd.prog 7 #[nv X] w fun e w' => e = .returned (.bool (mayB X)) ∧ Ext w w' := by
  unfold mayB
  by_cases h0 : X = 0
  · subst h0
    exact may_zero w
  · by_cases hl : X < Pt.nn
    · rw [decide_eq_true h0, decide_eq_true hl]
      exact may_in X hX h0 hl w
    · rw [decide_eq_true h0, decide_eq_false hl]
      exact may_out X hX h0 hl w
end Go.Proofs.YthgenmoiendakaaDoor


/-
  K and V, and the candidates, as the chapter has them.
-/
namespace Go.Proofs.YthgenmoiendakaaDoor
open Go.RowKit

structure KV where
  k : Nat → Nat
  v : Nat → Nat
structure KV.Ok (s : KV) : Prop where
  k : ∀ j, s.k j < 256
  v : ∀ j, s.v j < 256
/-- The number of 32 bytes. -/
def num32 (y : Nat → Nat) : Nat := lev (fun k => y (32 - 1 - k)) 32
theorem num32_lt {y : Nat → Nat} (hy : ∀ j, y j < 256) : num32 y < top := by
  have h := lev_lt (z := fun k => y (32 - 1 - k)) (fun j => hy _) 32
  have e : 256 ^ 32 = top := by decide +kernel
  unfold num32
  omega
/-- V, a byte, and a text. -/
def tx (v : Nat → Nat) (b : Nat) (t : Nat → Nat) : Nat → Nat := cat v 32 (cat (fun _ => b) 1 t)
def KV.step (s : KV) : KV := ⟨s.k, nb s.k 32 s.v 32⟩
/-- K, made anew of a byte and a text, and then V of both. -/
def KV.mix (s : KV) (b : Nat) (t : Nat → Nat) (m : Nat) : KV := KV.step ⟨nb s.k 32 (tx s.v b t) (33 + m), s.v⟩
def none0 : Nat → Nat := fun _ => 0
def KV.next (s : KV) : KV := s.step.mix 0 none0 0
theorem KV.Ok.step {s : KV} (h : s.Ok) : s.step.Ok := ⟨h.k, fun j => nb_lt _ _ _ _ j⟩
theorem KV.Ok.mix {s : KV} (_h : s.Ok) (b : Nat) (t : Nat → Nat) (m : Nat) : (s.mix b t m).Ok := ⟨fun j => nb_lt _ _ _ _ j, fun j => nb_lt _ _ _ _ j⟩
theorem KV.Ok.next {s : KV} (h : s.Ok) : s.next.Ok := h.step.mix _ _ _
/-- The first K and V. -/
def kv0 : KV := ⟨fun _ => 0, fun _ => 1⟩
theorem kv0_ok : kv0.Ok := ⟨fun _ => by show (0 : Nat) < 256; decide, fun _ => by show (1 : Nat) < 256; decide⟩
/-- Byte j of a number's 32. -/
def be (X j : Nat) : Nat := dg 256 X (31 - j)
theorem be_lt (X j : Nat) : be X j < 256 := Nat.mod_lt _ (by decide)
/-- The text that is mixed in: the secret's bytes and the digest's. -/
def two (D M : Nat) : Nat → Nat := cat (be D) 32 (be M)
theorem two_lt (D M j : Nat) : two D M j < 256 := cat_lt (be_lt D) (be_lt M) j
def kvS (D M : Nat) : KV := (kv0.mix 0 (two D M) 64).mix 1 (two D M) 64
def kvN (D M : Nat) : Nat → KV
  | 0 => kvS D M
  | i + 1 => (kvN D M i).next
theorem kvN_ok (D M : Nat) : ∀ i, (kvN D M i).Ok
  | 0 => (kv0_ok.mix _ _ _).mix _ _ _
  | i + 1 => (kvN_ok D M i).next
/-- Number i. -/
def numN (D M i : Nat) : Nat := num32 (kvN D M i).step.v
theorem numN_lt (D M i : Nat) : numN D M i < top := num32_lt (kvN_ok D M i).step.v
/-- The candidates of the first i numbers. -/
def outN (D M : Nat) : Nat → List Nat
  | 0 => []
  | i + 1 => if mayB (numN D M i) = true then outN D M i ++ [numN D M i] else outN D M i
theorem outN_step (D M i : Nat) : (outN D M i).length ≤ (outN D M (i + 1)).length ∧ (outN D M (i + 1)).length ≤ (outN D M i).length + 1 := by
  have e : outN D M (i + 1) = if mayB (numN D M i) = true then outN D M i ++ [numN D M i] else outN D M i := rfl
  rw [e]
  split <;> simp
theorem outN_mono (D M i : Nat) : ∀ j, i ≤ j → ∃ r, outN D M j = outN D M i ++ r := by
  intro j
  induction j with
  | zero => intro h; obtain rfl : i = 0 := by omega
            exact ⟨[], by simp⟩
  | succ j ih =>
    intro h
    by_cases e : i = j + 1
    · subst e; exact ⟨[], by simp⟩
    · obtain ⟨r, hr⟩ := ih (by omega)
      show ∃ r', (if mayB (numN D M j) = true then outN D M j ++ [numN D M j] else outN D M j) = _
      split
      · exact ⟨r ++ [numN D M j], by rw [hr, List.append_assoc]⟩
      · exact ⟨r, hr⟩
theorem outN_may (D M : Nat) : ∀ i, ∀ x ∈ outN D M i, mayB x = true ∧ x < top
  | 0, x, h => by simp [outN] at h
  | i + 1, x, h => by
    unfold outN at h
    split at h
    · rcases List.mem_append.1 h with h | h
      · exact outN_may D M i x h
      · simp only [List.mem_singleton] at h
        subst h
        exact ⟨by assumption, numN_lt D M i⟩
    · exact outN_may D M i x h
/-- s: how many numbers are looked at for so many candidates. -/
structure Ends (D M many s : Nat) : Prop where
  le : s ≤ 100
  pre : ∀ j, j < s → (outN D M j).length < many
  fin : s = 100 ∨ ¬ (outN D M s).length < many
theorem Ends.same {D M many s s' : Nat} (h : Ends D M many s) (h' : Ends D M many s') : s = s' := by
  rcases Nat.lt_trichotomy s s' with e | e | e
  · have := h'.pre s e
    rcases h.fin with f | f
    · have := h'.le; omega
    · exact absurd this f
  · exact e
  · have := h.pre s' e
    rcases h'.fin with f | f
    · have := h.le; omega
    · exact absurd this f
theorem Ends.most {D M many s : Nat} (h : Ends D M many s) : (outN D M s).length ≤ many := by
  cases s with
  | zero => simp [outN]
  | succ s =>
    have h1 := h.pre s (by omega)
    have h2 := (outN_step D M s).2
    omega
theorem Ends.fewer {D M many few s s' : Nat} (h : Ends D M many s) (h' : Ends D M few s') (hf : few ≤ many) : s' ≤ s := by
  by_cases e : s' ≤ s
  · exact e
  · have h1 := h'.pre s (by omega)
    rcases h.fin with f | f
    · have := h'.le; omega
    · exact absurd (Nat.lt_of_lt_of_le h1 hf) f
/-- Where not too few are found, just so many are. -/
theorem Ends.full {D M many s : Nat} (h : Ends D M many s) (hn : ¬ (outN D M s).length < many) : (outN D M s).length = many := by
  have := h.most
  omega
theorem Ends.enough {D M many few s s' : Nat} (h : Ends D M many s) (h' : Ends D M few s') (hf : few ≤ many) (hn : ¬ (outN D M s).length < many) : ¬ (outN D M s').length < few := by
  rcases h'.fin with f | f
  · have e : s' ≤ s := h.fewer h' hf
    obtain rfl : s = s' := by have := h.le; omega
    omega
  · exact f
end Go.Proofs.YthgenmoiendakaaDoor


/-
  A slice of numbers that the call owns.
-/
namespace Go.Proofs.YthgenmoiendakaaDoor
open Go.RowKit

/-- The cells of numbers, one behind the other. -/
def cellsN : List Nat → List Value
  | [] => []
  | x :: xs => (nc x).toList ++ cellsN xs
theorem cellsN_length : ∀ xs : List Nat, (cellsN xs).length = xs.length * 4
  | [] => rfl
  | x :: xs => by
    show ((nc x).toList ++ cellsN xs).length = _
    rw [List.length_append, cellsN_length xs, List.length_cons]
    show 4 + _ = _
    omega
theorem cellsN_append : ∀ (xs ys : List Nat), cellsN (xs ++ ys) = cellsN xs ++ cellsN ys
  | [], ys => rfl
  | x :: xs, ys => by
    show (nc x).toList ++ cellsN (xs ++ ys) = ((nc x).toList ++ cellsN xs) ++ cellsN ys
    rw [cellsN_append xs ys, List.append_assoc]
theorem cellsN_at : ∀ (xs : List Nat) (i : Nat) (x : Nat), xs[i]? = some x → ((cellsN xs).drop (i * 4)).take 4 = (nc x).toList
  | [], i, x, h => by simp at h
  | y :: xs, 0, x, h => by
    obtain rfl : y = x := by simpa using h
    rfl
  | y :: xs, i + 1, x, h => by
    have h1 := cellsN_at xs i x (by simpa using h)
    have e : (i + 1) * 4 = (nc y).toList.length + i * 4 := by
      show _ = 4 + _
      omega
    show (((nc y).toList ++ cellsN xs).drop ((i + 1) * 4)).take 4 = _
    rw [e, ← List.drop_drop, List.drop_left, h1]
/-- v is the slice of these numbers. -/
def OwnN (w : World) (base : Nat) (v : Value) (xs : List Nat) : Prop := w.ownsRow base 24 4 v xs.length (cellsN xs)
section
variable {w w' : World} {base : Nat} {v : Value} {xs : List Nat}
theorem OwnN.nil (w : World) (base : Nat) : OwnN w base (.slice none 0 0) [] := World.ownsRow_nil _ _ _ _
theorem OwnN.form (o : OwnN w base v xs) : ∃ A c, v = .slice A xs.length c ∧ xs.length ≤ c := by
  rcases o.2 with ⟨h, h0⟩ | ⟨g, cap, cur, h, _, _, hn, _⟩
  · exact ⟨none, 0, by rw [h, h0], by omega⟩
  · exact ⟨_, cap, h, hn⟩
theorem OwnN.lt (o : OwnN w base v xs) {k : Nat} (hk : v.ownBlock = some k) : base ≤ k ∧ k < w.heap.size := World.ownsRow.lt o k hk
theorem OwnN.keep (o : OwnN w base v xs) (h : ∀ k, v.ownBlock = some k → w'.heap[k]? = w.heap[k]?) : OwnN w' base v xs := by
  refine ⟨o.1, ?_⟩
  rcases o.2 with hn | ⟨g, cap, cur, rfl, hbg, hh, rest⟩
  · exact .inl hn
  · exact .inr ⟨g, cap, cur, rfl, hbg, (h g rfl).trans hh, rest⟩
theorem OwnN.ext (o : OwnN w base v xs) (h : Ext w w') : OwnN w' base v xs := o.keep fun k hk => Below.block h k (o.lt hk).2
theorem OwnN.but {r : Nat} (o : OwnN w base v xs) (h : But r w w') (hr : r < base) : OwnN w' base v xs := o.keep fun k hk => h.block k (o.lt hk).2 (by have := (o.lt hk).1; intro e; injection e; omega)
theorem OwnN.base_le {base' : Nat} (o : OwnN w base v xs) (hb : base' ≤ base) : OwnN w base' v xs :=
  ⟨o.1, o.2.elim .inl fun ⟨g, cap, cur, hv, hg, r⟩ => .inr ⟨g, cap, cur, hv, Nat.le_trans hb hg, r⟩⟩
/-- Number i's cells. -/
theorem OwnN.at (o : OwnN w base v xs) {i : Nat} (hi : i < xs.length) : ∃ g cap, v = .slice (some ⟨g, 0, none⟩) xs.length cap ∧ base ≤ g ∧ g < w.heap.size ∧ w.rangeAt g (i * 4) (nc (xs[i]'hi)).toList := by
  rcases o.2 with ⟨_, h0⟩ | ⟨g, cap, cur, rfl, hbg, hh, hn, hm, hs, ht⟩
  · omega
  · refine ⟨g, cap, rfl, hbg, (Array.getElem?_eq_some_iff.1 hh).1, fun j u hu => ?_⟩
    have hj : j < 4 := by have := (List.getElem?_eq_some_iff.1 hu).1; exact this
    rw [cell_of_row w g _ cur _ _ hh]
    have h1 := cellsN_at xs i _ (List.getElem?_eq_getElem hi)
    rw [← h1, List.getElem?_take_of_lt hj, List.getElem?_drop, ← ht, List.getElem?_take_of_lt (by omega)] at hu
    simpa using hu
end
theorem infoN32 : (Tryd.prog.info? 24).map (fun i => (i.zero, i.size, i.bytes)) = some (some (.agg #[.int .u64 0, .int .u64 0, .int .u64 0, .int .u64 0]), 4, 32) := by kernel_rfl
theorem info_parts4 {i : Option TypeInfo} {z : Value} {n b : Nat} (h : i.map (fun i => (i.zero, i.size, i.bytes)) = some (some z, n, b)) : ∃ j, i = some j ∧ j.zero = some z ∧ j.size = n ∧ j.bytes = b := by
  cases i with
  | none => simp at h
  | some j =>
    simp only [Option.map_some, Option.some.injEq, Prod.mk.injEq] at h
    exact ⟨j, rfl, h.1, h.2.1, h.2.2⟩
/-- One number, appended. -/
theorem wpl_append_num {w : World} {ops : Array Oper} {rest : List Oper} {o : Oper} {a : Act} {Q : Exit → Act → World → Prop} (hgd : o.guard = none) (s x : Operand)
    (ho : o.op = .call { callee := .builtin .append, args := #[s, x], argTypes := #[28, 28] })
    (base : Nat) (v : Value) (xs : List Nat) (hs : a.eval s = v) (hown : OwnN w base v xs) (g X : Nat) (hx : a.eval x = .slice (some ⟨g, 0, none⟩) 1 1) (hg : w.heap[g]? = some (.cells (nc X) 24 (0, 0)))
    (hn : xs.length ≤ 1000) (hbase : base ≤ w.heap.size)
    (h : ∀ v' w', OwnN w' base v' (xs ++ [X]) → w.grownBy w' v.ownBlock → wpList Tryd.prog ops Q rest (a.put o.dst v') w') : wpList Tryd.prog ops Q (o :: rest) a w := by
  obtain ⟨i, hi, hz, hsz, hby⟩ := info_parts4 infoN32
  refine wpList_plain hgd fun K hK => ?_
  obtain ⟨v', w', hr, h2, h3, _, _⟩ := run_append_own_at (P := Tryd.prog) w base 28 o.type 24 i _ 4 32 Tryd.underlying28 hi hz hsz hby rfl (by decide) v xs.length (cellsN xs) hown ⟨g, 0, none⟩ 1 1 (nc X).toList rfl
    (fun j u hu => by
      rw [Addr.add_mid, Nat.zero_add, cell_of_row w g j (nc X) _ _ hg]
      simpa using hu)
    (fun u hu => (Array.all_eq_true_iff_forall_mem.1 (nc_one X)) u (by simpa using hu)) (by unfold maxLen; omega) (by omega) hbase
  unfold Oper.wp execOp
  simp only [ho, resolve, invoke, builtin, Sem.run_bind, Sem.run_pure, Result.andThen_ok, List.map_toArray, List.map_cons, List.map_nil, hs, hx, hr]
  refine hK _ _ (h v' w' ?_ h3)
  unfold OwnN
  rw [cellsN_append, List.length_append]
  have e : cellsN [X] = (nc X).toList := List.append_nil _
  rw [e]
  exact h2
end Go.Proofs.YthgenmoiendakaaDoor
