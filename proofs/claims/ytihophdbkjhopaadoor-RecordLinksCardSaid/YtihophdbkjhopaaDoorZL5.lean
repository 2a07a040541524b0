/-
  Of Pt Q1 Ce Gv K5 K6 K7 K8 K9 Chg Sto.
-/
import Derived.WalkKit
import Derived.Deep.WholeRow
import Derived.DeepKeys
import Derived.Deep.CutRange
import Derived.Deep.RegionHeld3
import Derived.Laws.IdiomStrings
import Derived.Great.BuildSlice
import Derived.Test.YtihophdbkjhopaaDoorZL2
import Derived.Test.YtihophdbkjhopaaDoorZL4
import Derived.Test.YtihophdbkjhopaaDoorZL3
import Derived.Test.YtihophdbkjhopaaDoorZL1
set_option maxRecDepth 1000000
set_option maxHeartbeats 20000000
namespace Go.Proofs.YtihophdbkjhopaaDoor.Pt
section law
variable {n : Nat} [NeZero n]
def Slope (a x1 y1 x2 y2 l : Fin n) : Prop:=l * (x2 - x1) = y2 - y1 ∧ l * (y1 + y2) = x1 * x1 + x1 * x2 + x2 * x2 + a
def OnC (a b x y : Fin n) : Prop:=y * y = x * x * x + a * x + b
def NoZ (n : Nat) [NeZero n] : Prop:=∀ x y : Fin n,x * y = 0 → x = 0 ∨ y = 0
theorem mv1 {x1 y1 x2 y2 l : Fin n} (h : l * (x2 - x1) = y2 - y1) : y1 = y2 - l * (x2 - x1):=by grobner
theorem mv2 {x1 y1 x2 y2 l : Fin n} (h : l * (x2 - x1) = y2 - y1) : y2 = y1 + l * (x2 - x1):=by grobner
theorem zdr {a x1 y1 x2 y2 l : Fin n} (h : Slope a x1 y1 x2 y2 l) : Slope a x2 y2 x1 y1 l:=by
 obtain ⟨h1,h2⟩:=h
 refine ⟨?_,?_⟩ <;> grobner
theorem slope_uniq {a x1 y1 x2 y2 l m : Fin n} (hz : NoZ n) (hn : ¬ (x1 = x2 ∧ y1 + y2 = 0)) (h : Slope a x1 y1 x2 y2 l) (h' : Slope a x1 y1 x2 y2 m) : l = m:=by
 obtain ⟨h1,h2⟩:=h
 obtain ⟨g1,g2⟩:=h'
 have e1 : (l - m) * (x2 - x1) = 0:=by grobner
 have e2 : (l - m) * (y1 + y2) = 0:=by grobner
 rcases hz _ _ e1 with h | h
 ·
  grobner
 ·
  rcases hz _ _ e2 with h' | h'
  ·
   grobner
  ·
   exact absurd ⟨by grobner,h'⟩ hn
theorem on_third {a b x1 y1 x2 y2 l : Fin n} (h : OnC a b x1 y1) (hs : Slope a x1 y1 x2 y2 l) : OnC a b (l * l - x1 - x2) (l * (x1 - (l * l - x1 - x2)) - y1):=by
 obtain ⟨h1,h2⟩:=hs
 have ha : a = 2 * l * y1 + l * l * (x2 - x1) - x1 * x1 - x1 * x2 - x2 * x2:=by grobner
 have hb : b = y1 * y1 - x1 * x1 * x1 - a * x1:=by unfold OnC at h; grobner
 unfold OnC
 subst hb
 subst ha
 grobner
theorem tan0 {x3 xd y3 yd s : Fin n} (h : s * (x3 - xd) = y3 - yd) (hx : xd = x3) : yd = y3:=by subst hx; grobner
theorem tan1 {x1 x2 x3 y2 l m : Fin n} (hR : 2 * (l - m) * y2 = (x1 - x2) * (x1 + x2 + x3 - l * l) - (x3 - x2) * (x1 + x2 + x3 - m * m)) (h : l * l - x1 - x2 = x3) : (l - m) * (2 * y2 + (x3 - x2) * (l + m)) = 0:=by subst h; grobner
theorem tan2 {x2 x3 y2 y3 l m : Fin n} (h : 2 * y2 + (x3 - x2) * (l + m) = 0) (hy : y3 = y2 + m * (x3 - x2)) : y3 + y3 = (x3 - x2) * (m - l):=by subst hy; grobner
theorem tan3 {a x1 x2 x3 y2 y3 l m s : Fin n} (h : 2 * y2 + (x3 - x2) * (l + m) = 0) (hy : y3 = y2 + m * (x3 - x2)) (h4 : y3 + y3 = (x3 - x2) * (m - l)) (hx : l * l - x1 - x2 = x3)
  (m2 : m * (y2 + y3) = x2 * x2 + x2 * x3 + x3 * x3 + a) (s2 : s * (y3 + y3) = x3 * x3 + x3 * x3 + x3 * x3 + a) : (x3 - x2) * ((l - m) * (s + l) - (x1 - x3)) = 0:=by
 have e1 : y2 + y3 = - ((x3 - x2) * l):=by clear m2 s2 hx; subst hy; grobner
 rw [e1] at m2
 rw [h4] at s2
 clear h h4 hy e1
 have e2 : x1 = l * l - x2 - x3:=by grobner
 subst e2
 grobner
theorem sec1 {x1 x2 x3 y2 y3 l m s xd yd : Fin n} (h : s * (x3 - xd) = y3 - yd) (hy : y3 = y2 + m * (x3 - x2)) (hd : yd = l * (x1 - xd) - (y2 - l * (x2 - x1))) : (s + l) * (x3 - xd) = 2 * y2 + (l + m) * (x3 - x2):=by
 subst hy
 subst hd
 grobner
theorem sec2 {x1 x2 x3 y2 l m s : Fin n} (hR : 2 * (l - m) * y2 = (x1 - x2) * (x1 + x2 + x3 - l * l) - (x3 - x2) * (x1 + x2 + x3 - m * m)) (h : (s + l) * (x3 - (l * l - x1 - x2)) = 2 * y2 + (l + m) * (x3 - x2)) :
  (x3 - (l * l - x1 - x2)) * ((l - m) * (s + l) - (x1 - x3)) = 0:=by grobner
theorem keyR {a x1 y1 x2 y2 x3 y3 l m : Fin n} (hl : Slope a x1 y1 x2 y2 l) (hm : Slope a x2 y2 x3 y3 m) : 2 * (l - m) * y2 = (x1 - x2) * (x1 + x2 + x3 - l * l) - (x3 - x2) * (x1 + x2 + x3 - m * m):=by
 obtain ⟨l1,l2⟩:=hl
 obtain ⟨m1,m2⟩:=hm
 have hy1:=mv1 l1
 have hy3:=mv2 m1
 subst hy1
 subst hy3
 clear l1 m1
 grobner
theorem eq_of_sub {x y : Fin n} (h : x - y = 0) : x = y:=by grobner
theorem key {a x1 y1 x2 y2 x3 y3 l m s : Fin n} (hz : NoZ n) (hlm : l ≠ m) (hl : Slope a x1 y1 x2 y2 l) (hm : Slope a x2 y2 x3 y3 m)
  (hs : Slope a (l * l - x1 - x2) (l * (x1 - (l * l - x1 - x2)) - y1) x3 y3 s) (hn : ¬ (l * l - x1 - x2 = x3 ∧ l * (x1 - (l * l - x1 - x2)) - y1 + y3 = 0)) : (l - m) * (s + l) = x1 - x3:=by
 have hR:=keyR hl hm
 obtain ⟨l1,l2⟩:=hl
 obtain ⟨m1,m2⟩:=hm
 obtain ⟨s1,s2⟩:=hs
 have hy1:=mv1 l1
 have hy3:=mv2 m1
 by_cases hP : l * l - x1 - x2 = x3
 ·
  have hyy:=tan0 s1 hP
  have h3 : 2 * y2 + (x3 - x2) * (l + m) = 0:=by
   rcases hz _ _ (tan1 hR hP) with h | h
   ·
    exact absurd (eq_of_sub h) hlm
   ·
    exact h
  have h4:=tan2 h3 hy3
  rw [hyy,hP] at s2
  rcases hz _ _ (tan3 h3 hy3 h4 hP m2 s2) with h | h
  ·
   refine absurd ⟨hP,?_⟩ hn
   rw [hyy,h4,h]
   grobner
  ·
   exact eq_of_sub h
 ·
  rw [hy1] at s1
  rcases hz _ _ (sec2 hR (sec1 s1 hy3 rfl)) with h | h
  ·
   exact absurd (eq_of_sub h).symm hP
  ·
   exact eq_of_sub h
structure Cur (n : Nat) [NeZero n] where
 a : Fin n
 b : Fin n
 inv : Fin n → Fin n
structure Good (E : Cur n) : Prop where
 hz : NoZ n
 nt : ∀ x : Fin n,x * x * x + E.a * x + E.b ≠ 0
 two : (2 : Fin n) ≠ 0
 hinv : ∀ x : Fin n,x ≠ 0 → x * E.inv x = 1
def Cur.lam (E : Cur n) (x1 y1 x2 y2 : Fin n) : Fin n:=if x1 = x2 ∧ y1 = y2 then (3 * (x1 * x1) + E.a) * E.inv (y1 + y1) else (y2 - y1) * E.inv (x2 - x1)
abbrev P (n : Nat):=Option (Fin n × Fin n)
def third (x1 y1 x2 l : Fin n) : P n:=some (l * l - x1 - x2,l * (x1 - (l * l - x1 - x2)) - y1)
def Cur.add (E : Cur n) : P n → P n → P n
 | none,q => q
 | p,none => p
 | some (x1,y1),some (x2,y2) => if x1 = x2 ∧ y1 + y2 = 0 then none else third x1 y1 x2 (E.lam x1 y1 x2 y2)
def neg : P n → P n
 | none => none
 | some (x,y) => some (x,- y)
def Cur.on (E : Cur n) : P n → Prop
 | none => True
 | some (x,y) => OnC E.a E.b x y
variable {E : Cur n}
theorem zbb (G : Good E) {x1 y1 x2 y2 : Fin n} (h1 : OnC E.a E.b x1 y1) (h2 : OnC E.a E.b x2 y2) (hn : ¬ (x1 = x2 ∧ y1 + y2 = 0)) : Slope E.a x1 y1 x2 y2 (E.lam x1 y1 x2 y2):=by
 unfold OnC at h1 h2
 unfold Cur.lam
 by_cases hs : x1 = x2 ∧ y1 = y2
 ·
  rw [if_pos hs]
  obtain ⟨rfl,rfl⟩:=hs
  have hi:=G.hinv (y1 + y1) (fun h => hn ⟨rfl,h⟩)
  generalize E.inv (y1 + y1) = i at hi ⊢
  refine ⟨?_,?_⟩
  ·
   clear hi h1 h2; grobner
  ·
   clear h1 h2; grobner
 ·
  rw [if_neg hs]
  by_cases hx : x1 = x2
  ·
   exfalso
   have e : (y1 - y2) * (y1 + y2) = 0:=by subst hx; grobner
   rcases G.hz _ _ e with h | h
   ·
    exact hs ⟨hx,eq_of_sub h⟩
   ·
    exact hn ⟨hx,h⟩
  ·
   have hx' : x2 - x1 ≠ 0:=fun h => hx (eq_of_sub h).symm
   have hi:=G.hinv (x2 - x1) hx'
   generalize E.inv (x2 - x1) = i at hi ⊢
   have e1 : (y2 - y1) * i * (x2 - x1) = y2 - y1:=by clear h1 h2; grobner
   refine ⟨e1,?_⟩
   generalize (y2 - y1) * i = l at e1 ⊢
   clear hi
   have e : (x2 - x1) * (l * (y1 + y2) - (x1 * x1 + x1 * x2 + x2 * x2 + E.a)) = 0:=by grobner
   rcases G.hz _ _ e with h | h
   ·
    exact absurd h hx'
   ·
    exact eq_of_sub h
theorem zcc (G : Good E) {x1 y1 x2 y2 l : Fin n} (h1 : OnC E.a E.b x1 y1) (h2 : OnC E.a E.b x2 y2) (hn : ¬ (x1 = x2 ∧ y1 + y2 = 0)) (hl : Slope E.a x1 y1 x2 y2 l) : E.add (some (x1,y1)) (some (x2,y2)) = third x1 y1 x2 l:=by
 show (if x1 = x2 ∧ y1 + y2 = 0 then none else third x1 y1 x2 (E.lam x1 y1 x2 y2)) = _
 rw [if_neg hn,slope_uniq G.hz hn (zbb G h1 h2 hn) hl]
theorem zbx (E : Cur n) {x1 y1 x2 y2 : Fin n} (hn : x1 = x2 ∧ y1 + y2 = 0) : E.add (some (x1,y1)) (some (x2,y2)) = none:=if_pos hn
theorem none_add (E : Cur n) (p : P n) : E.add none p = p:=by cases p <;> rfl
theorem add_none (E : Cur n) (p : P n) : E.add p none = p:=by cases p <;> rfl
theorem zfu {x1 y1 x2 y2 l : Fin n} (h1 : OnC E.a E.b x1 y1) (hl : Slope E.a x1 y1 x2 y2 l) : E.on (third x1 y1 x2 l):=on_third h1 hl
theorem on_add (G : Good E) {p q : P n} (hp : E.on p) (hq : E.on q) : E.on (E.add p q):=by
 rcases p with _ | ⟨x1,y1⟩
 ·
  rw [none_add]; exact hq
 rcases q with _ | ⟨x2,y2⟩
 ·
  rw [add_none]; exact hp
 by_cases hn : x1 = x2 ∧ y1 + y2 = 0
 ·
  rw [zbx E hn]; trivial
 ·
  have hl:=zbb G hp hq hn
  rw [zcc G hp hq hn hl]
  exact zfu hp hl
theorem zff {x1 y1 x2 y2 l a : Fin n} (hl : Slope a x1 y1 x2 y2 l) : third x1 y1 x2 l = third x2 y2 x1 l:=by
 obtain ⟨h1,_⟩:=hl
 unfold third
 have e1 : l * l - x1 - x2 = l * l - x2 - x1:=by clear h1; grobner
 rw [← e1]
 have e2 : l * (x1 - (l * l - x1 - x2)) - y1 = l * (x2 - (l * l - x1 - x2)) - y2:=by
  have:=mv2 h1
  clear h1 e1
  subst this
  grobner
 rw [e2]
theorem opp_symm {x1 y1 x2 y2 : Fin n} (h : x1 = x2 ∧ y1 + y2 = 0) : x2 = x1 ∧ y2 + y1 = 0:=⟨h.1.symm,by have:=h.2; clear h; grobner⟩
theorem zbd (G : Good E) {p q : P n} (hp : E.on p) (hq : E.on q) : E.add p q = E.add q p:=by
 rcases p with _ | ⟨x1,y1⟩
 ·
  rw [none_add,add_none]
 rcases q with _ | ⟨x2,y2⟩
 ·
  rw [none_add,add_none]
 by_cases hn : x1 = x2 ∧ y1 + y2 = 0
 ·
  rw [zbx E hn,zbx E (opp_symm hn)]
 ·
  have hl:=zbb G hp hq hn
  rw [zcc G hp hq hn hl,zcc G hq hp (fun h => hn (opp_symm h)) (zdr hl),zff hl]
theorem zcy {p : P n} (hp : E.on p) : E.on (neg p):=by
 rcases p with _ | ⟨x1,y1⟩
 ·
  trivial
 ·
  change OnC _ _ _ _ at hp
  change OnC _ _ _ _
  unfold OnC at *
  rw [← hp]
  clear hp
  grobner
theorem zcz (p : P n) : neg (neg p) = p:=by
 rcases p with _ | ⟨x1,y1⟩
 ·
  rfl
 ·
  show some (x1,- - y1) = some (x1,y1)
  have : - - y1 = y1:=by grobner
  rw [this]
theorem zez (E : Cur n) (p : P n) : E.add p (neg p) = none:=by
 rcases p with _ | ⟨x1,y1⟩
 ·
  rfl
 ·
  exact zbx E ⟨rfl,by grobner⟩
theorem dbl_zero (G : Good E) {y : Fin n} (h : y + y = 0) : y = 0:=by
 have e : 2 * y = 0:=by grobner
 rcases G.hz _ _ e with h | h
 ·
  exact absurd h G.two
 ·
  exact h
theorem y_ne (G : Good E) {x y : Fin n} (h : OnC E.a E.b x y) : y ≠ 0:=by
 intro e
 subst e
 refine G.nt x ?_
 unfold OnC at h
 rw [← h]
 clear h
 grobner
theorem neg_add' (G : Good E) {p q : P n} (hp : E.on p) (hq : E.on q) : neg (E.add p q) = E.add (neg p) (neg q):=by
 rcases p with _ | ⟨x1,y1⟩
 ·
  rw [none_add]; exact (none_add E _).symm
 rcases q with _ | ⟨x2,y2⟩
 ·
  rw [add_none]; exact (add_none E _).symm
 by_cases hn : x1 = x2 ∧ y1 + y2 = 0
 ·
  rw [zbx E hn]
  exact (zbx E ⟨hn.1,by have:=hn.2; clear hn; grobner⟩).symm
 ·
  have hl:=zbb G hp hq hn
  rw [zcc G hp hq hn hl]
  have hn' : ¬ (x1 = x2 ∧ - y1 + - y2 = 0):=fun h => hn ⟨h.1,by have:=h.2; clear h hl hn hp hq; grobner⟩
  generalize E.lam x1 y1 x2 y2 = l at hl ⊢
  have hl' : Slope E.a x1 (- y1) x2 (- y2) (- l):=by
   obtain ⟨g1,g2⟩:=hl
   refine ⟨?_,?_⟩
   ·
    clear g2 hn hn' hp hq; grobner
   ·
    rw [← g2]; clear g1 g2 hn hn' hp hq; grobner
  have hN : E.add (neg (some (x1,y1))) (neg (some (x2,y2))) = third x1 (- y1) x2 (- l):=zcc G (zcy hp) (zcy hq) hn' hl'
  rw [hN]
  clear hl' hl hn hn' hN hp hq
  show some (_,_) = some (_,_)
  have e1 : - l * - l - x1 - x2 = l * l - x1 - x2:=by grobner
  rw [e1]
  have e2 : - (l * (x1 - (l * l - x1 - x2)) - y1) = - l * (x1 - (l * l - x1 - x2)) - - y1:=by grobner
  rw [e2]
theorem rot (G : Good E) {p q : P n} (hp : E.on p) (hq : E.on q) : E.add q (neg (E.add p q)) = neg p:=by
 rcases p with _ | ⟨x1,y1⟩
 ·
  rw [none_add]; exact zez E q
 rcases q with _ | ⟨x2,y2⟩
 ·
  rw [none_add,add_none]
 by_cases hn : x1 = x2 ∧ y1 + y2 = 0
 ·
  rw [zbx E hn]
  show E.add (some (x2,y2)) none = some (x1,- y1)
  rw [add_none]
  obtain ⟨rfl,h⟩:=hn
  have : y2 = - y1:=by clear hp hq; grobner
  rw [this]
 ·
  have hl:=zbb G hp hq hn
  rw [zcc G hp hq hn hl]
  generalize E.lam x1 y1 x2 y2 = l at hl
  have h3 : E.on (neg (third x1 y1 x2 l)):=zcy (zfu hp hl)
  change E.add _ (some (l * l - x1 - x2,- (l * (x1 - (l * l - x1 - x2)) - y1))) = _
  change E.on (some (l * l - x1 - x2,- (l * (x1 - (l * l - x1 - x2)) - y1))) at h3
  obtain ⟨g1,g2⟩:=hl
  have hy:=mv1 g1
  have e1 : - (l * (x1 - (l * l - x1 - x2)) - y1) = y2 + l * (l * l - x1 - x2 - x2):=by clear g1 g2 h3 hn hp hq; subst hy; grobner
  rw [e1] at h3 ⊢
  have hs : Slope E.a x2 y2 (l * l - x1 - x2) (y2 + l * (l * l - x1 - x2 - x2)) l:=by
   refine ⟨?_,?_⟩
   ·
    clear g1 g2 h3 hn hp hq hy e1; grobner
   ·
    have : E.a = l * (y1 + y2) - (x1 * x1 + x1 * x2 + x2 * x2):=by rw [g2]; clear g1 g2 h3 hn hp hq hy e1; grobner
    rw [this,hy]
    clear this g1 g2 h3 hn hp hq hy e1
    grobner
  have hn2 : ¬ (x2 = l * l - x1 - x2 ∧ y2 + (y2 + l * (l * l - x1 - x2 - x2)) = 0):=by
   rintro ⟨h,h'⟩
   rw [← h] at h'
   refine y_ne G hq (dbl_zero G ?_)
   rw [← h']
   clear h h' hs g1 g2 h3 hn hp hq hy e1
   grobner
  rw [zcc G hq h3 hn2 hs]
  show some (_,_) = some (_,_)
  have e2 : l * l - x2 - (l * l - x1 - x2) = x1:=by clear hn2 hs g1 g2 h3 hn hp hq hy e1; grobner
  have e3 : l * (x2 - x1) - y2 = - y1:=by rw [hy]; clear hn2 hs g1 g2 h3 hn hp hq hy e1 e2; grobner
  rw [e2,e3]
theorem back (G : Good E) {p q : P n} (hp : E.on p) (hq : E.on q) : E.add (neg q) (E.add p q) = p:=by
 have h:=rot G hp hq
 have h2:=congrArg neg h
 rw [zcz,neg_add' G hq (zcy (on_add G hp hq)),zcz] at h2
 exact h2
theorem fore (G : Good E) {p q : P n} (hp : E.on p) (hq : E.on q) : E.add p (E.add (neg p) q) = q:=by
 have h:=back G hq (zcy hp)
 rw [zcz,zbd G hq (zcy hp)] at h
 exact h
theorem opp_eq {x1 y1 x2 y2 : Fin n} (h : x1 = x2 ∧ y1 + y2 = 0) : (some (x2,y2) : P n) = neg (some (x1,y1)):=by
 obtain ⟨rfl,h⟩:=h
 have : y2 = - y1:=by grobner
 rw [this]
 rfl
theorem two_ways (G : Good E) {x1 y1 x2 y2 x3 y3 : Fin n} (h1 : OnC E.a E.b x1 y1) (h2 : OnC E.a E.b x2 y2) (h3 : OnC E.a E.b x3 y3)
  (n12 : ¬ (x1 = x2 ∧ y1 + y2 = 0)) (n32 : ¬ (x3 = x2 ∧ y3 + y2 = 0))
  (nl : E.add (some (x1,y1)) (some (x2,y2)) ≠ neg (some (x3,y3))) (nr : E.add (some (x3,y3)) (some (x2,y2)) ≠ neg (some (x1,y1))) :
  E.add (E.add (some (x1,y1)) (some (x2,y2))) (some (x3,y3)) = E.add (E.add (some (x3,y3)) (some (x2,y2))) (some (x1,y1)):=by
 have hl:=zbb G h1 h2 n12
 have hm:=zbb G h3 h2 n32
 have el:=zcc G h1 h2 n12 hl
 have em:=zcc G h3 h2 n32 hm
 generalize E.lam x1 y1 x2 y2 = l at hl el
 generalize E.lam x3 y3 x2 y2 = m at hm em
 rw [el] at nl ⊢
 rw [em] at nr ⊢
 have onD : E.on (third x1 y1 x2 l):=zfu h1 hl
 have onF : E.on (third x3 y3 x2 m):=zfu h3 hm
 unfold third at nl nr onD onF ⊢
 have nD : ¬ (l * l - x1 - x2 = x3 ∧ l * (x1 - (l * l - x1 - x2)) - y1 + y3 = 0):=by
  intro h
  refine nl ?_
  rw [opp_eq h]
  exact (zcz _).symm
 have nF : ¬ (m * m - x3 - x2 = x1 ∧ m * (x3 - (m * m - x3 - x2)) - y3 + y1 = 0):=by
  intro h
  refine nr ?_
  rw [opp_eq h]
  exact (zcz _).symm
 have hs:=zbb G onD h3 nD
 have ht:=zbb G onF h1 nF
 rw [zcc G onD h3 nD hs,zcc G onF h1 nF ht,zff hs,zff ht]
 generalize E.lam (l * l - x1 - x2) _ x3 y3 = s at hs
 generalize E.lam (m * m - x3 - x2) _ x1 y1 = t at ht
 by_cases hlm : l = m
 ·
  subst hlm
  have hR:=keyR hl (zdr hm)
  have e : (x1 - x3) * (x1 + x2 + x3 - l * l) = 0:=by clear hs ht nD nF nl nr onD onF n12 n32 h1 h2 h3 hl hm el em; grobner
  have hy1:=mv1 hl.1
  have hy3:=mv1 hm.1
  rcases G.hz _ _ e with h | h
  ·
   have hx : x1 = x3:=eq_of_sub h
   have hy : y1 = y3:=by rw [hy1,hy3,hx]
   subst hx
   subst hy
   have:=slope_uniq G.hz nD hs ht
   rw [this]
  ·
   refine absurd ⟨?_,?_⟩ nD
   ·
    clear hs ht nD nF nl nr onD onF n12 n32 h1 h2 h3 hl hm el em hR e hy1 hy3; grobner
   ·
    have e2 : l * l - x1 - x2 = x3:=by clear hs ht nD nF nl nr onD onF n12 n32 h1 h2 h3 hl hm el em hR e hy1 hy3; grobner
    rw [e2,hy1,hy3]
    clear hs ht nD nF nl nr onD onF n12 n32 h1 h2 h3 hl hm el em hR e hy1 hy3 h e2
    grobner
 ·
  have k1:=key G.hz hlm hl (zdr hm) hs nD
  have k2:=key G.hz (fun h => hlm h.symm) hm (zdr hl) ht nF
  have hk : (l - m) * (s + l - (t + m)) = 0:=by clear hs ht nD nF nl nr onD onF n12 n32 h1 h2 h3 hl hm el em; grobner
  have hk2 : s = t + m - l:=by
   rcases G.hz _ _ hk with h | h
   ·
    exact absurd (eq_of_sub h) hlm
   ·
    clear hs ht nD nF nl nr onD onF n12 n32 h1 h2 h3 hl hm el em hk k1 k2; grobner
  have hy1:=mv1 hl.1
  have hy3:=mv1 hm.1
  have hx : x3 = x1 + (m - l) * (t + m):=by rw [k2]; clear hs ht nD nF nl nr onD onF n12 n32 h1 h2 h3 hl hm el em hk k1 k2; grobner
  clear hs ht nD nF nl nr onD onF n12 n32 h1 h2 h3 hl hm el em hk k1 k2
  unfold third
  have ex : s * s - x3 - (l * l - x1 - x2) = t * t - x1 - (m * m - x3 - x2):=by
   clear hy1 hy3
   subst hk2
   subst hx
   grobner
  rw [ex]
  have ey : s * (x3 - (t * t - x1 - (m * m - x3 - x2))) - y3 = t * (x1 - (t * t - x1 - (m * m - x3 - x2))) - y1:=by
   clear ex
   subst hy1
   subst hy3
   subst hk2
   subst hx
   grobner
  rw [ey]
theorem assoc (G : Good E) {p q r : P n} (hp : E.on p) (hq : E.on q) (hr : E.on r) : E.add (E.add p q) r = E.add p (E.add q r):=by
 have hpq:=on_add G hp hq
 have hqr:=on_add G hq hr
 rcases p with _ | ⟨x1,y1⟩
 ·
  rw [none_add,none_add]
 rcases q with _ | ⟨x2,y2⟩
 ·
  rw [none_add,add_none]
 rcases r with _ | ⟨x3,y3⟩
 ·
  rw [add_none,add_none]
 by_cases n12 : x1 = x2 ∧ y1 + y2 = 0
 ·
  rw [zbx E n12,none_add,opp_eq n12]
  exact (fore G hp hr).symm
 by_cases n32 : x3 = x2 ∧ y3 + y2 = 0
 ·
  rw [zbx E (opp_symm n32),add_none,opp_eq n32,zbd G (on_add G hp (zcy hr)) hr,zbd G hp (zcy hr)]
  exact fore G hr hp
 by_cases nl : E.add (some (x1,y1)) (some (x2,y2)) = neg (some (x3,y3))
 ·
  have h:=rot G hp hq
  rw [nl,zcz] at h
  rw [nl,h,zez,zbd G (zcy hr) hr,zez]
 by_cases nr : E.add (some (x3,y3)) (some (x2,y2)) = neg (some (x1,y1))
 ·
  have h:=rot G hr hq
  rw [nr,zcz] at h
  rw [zbd G hq hr,nr,zez,zbd G hp hq,h,zbd G (zcy hr) hr,zez]
 rw [two_ways G hp hq hr n12 n32 nl nr,zbd G (on_add G hr hq) hp,zbd G hr hq]
end law
theorem php : ∀ (b a : Nat) (f : Nat → Nat),(∀ i,i < a → f i < b) → (∀ i j,i < a → j < a → f i = f j → i = j) → a ≤ b:=by
 intro b
 induction b with
 | zero =>
  intro a f h _
  rcases Nat.eq_zero_or_pos a with h0 | h0
  ·
   omega
  ·
   have:=h 0 h0; omega
 | succ b ih =>
  intro a f h inj
  rcases a with _ | a
  ·
   omega
  ·
   have hv:=h a (by omega)
   have:=ih a (fun i => if f i = b then f a else f i) (by
    intro i hi
    have h1:=h i (by omega)
    by_cases e : f i = b
    ·
     rw [if_pos e]
     have : f a ≠ b:=fun e2 => by have:=inj i a (by omega) (by omega) (by rw [e,e2]); omega
     omega
    ·
     rw [if_neg e]; omega) (by
    intro i j hi hj e
    have ha : ∀ k,k < a → f k ≠ f a:=fun k hk e2 => by have:=inj k a (by omega) (by omega) e2; omega
    have e : (if f i = b then f a else f i) = (if f j = b then f a else f j):=e
    by_cases e1 : f i = b <;> by_cases e2 : f j = b
    ·
     exact inj i j (by omega) (by omega) (by rw [e1,e2])
    ·
     rw [if_pos e1,if_neg e2] at e; exact absurd e.symm (ha j hj)
    ·
     rw [if_neg e1,if_pos e2] at e; exact absurd e (ha i hi)
    ·
     rw [if_neg e1,if_neg e2] at e; exact inj i j (by omega) (by omega) e)
   omega
structure Ab (α : Type) where
 op : α → α → α
 o : α
 ng : α → α
 comm : ∀ p q,op p q = op q p
 assoc : ∀ p q r,op (op p q) r = op p (op q r)
 ido : ∀ p,op o p = p
 ngo : ∀ p,op p (ng p) = o
namespace Ab
variable {α : Type} (A : Ab α)
theorem oid (p : α) : A.op p A.o = p:=by rw [A.comm,A.ido]
theorem back (p q : α) : A.op (A.op p q) (A.ng q) = p:=by rw [A.assoc,A.ngo,A.oid]
theorem cancel {p q r : α} (h : A.op p r = A.op q r) : p = q:=by
 rw [← A.back p r,h,A.back]
def mul : Nat → α → α
 | 0,_ => A.o
 | k + 1,p => A.op (mul k p) p
theorem mul_succ (k : Nat) (p : α) : A.mul (k + 1) p = A.op (A.mul k p) p:=rfl
theorem mul_add (i k : Nat) (p : α) : A.mul (i + k) p = A.op (A.mul i p) (A.mul k p):=by
 induction k with
 | zero => show A.mul i p = A.op (A.mul i p) A.o; rw [A.oid]
 | succ k ih => show A.op (A.mul (i + k) p) p = A.op (A.mul i p) (A.op (A.mul k p) p); rw [ih,A.assoc]
theorem mul_o (k : Nat) : A.mul k A.o = A.o:=by
 induction k with
 | zero => rfl
 | succ k ih => show A.op (A.mul k A.o) A.o = A.o; rw [A.oid,ih]
theorem mul_mul (i k : Nat) (p : α) : A.mul (i * k) p = A.mul i (A.mul k p):=by
 induction i with
 | zero => rw [Nat.zero_mul]; rfl
 | succ i ih => rw [Nat.succ_mul,mul_add,ih]; rfl
theorem mul_one (p : α) : A.mul 1 p = p:=A.ido p
theorem mul_gcd (p : α) (i k : Nat) : A.mul i p = A.o → A.mul k p = A.o → A.mul (Nat.gcd i k) p = A.o:=by
 refine Nat.gcd.induction i k ?_ ?_
 ·
  intro k _ h
  rwa [Nat.gcd_zero_left]
 ·
  intro i k hi ih h1 h2
  rw [Nat.gcd_rec]
  refine ih ?_ h1
  have e:=Nat.div_add_mod k i
  rw [← e,mul_add,Nat.mul_comm,mul_mul,h1,mul_o,A.ido] at h2
  exact h2
variable {A}
theorem inj_of {g : α} {N : Nat} (hN : ∀ d,d ∣ N → d = 1 ∨ d = N) (hg : A.mul N g = A.o) (hne : g ≠ A.o) {i j : Nat} (hj : j < N) (hij : i ≤ j) (h : A.mul i g = A.mul j g) : i = j:=by
 have e : A.mul (j - i) g = A.o:=by
  refine A.cancel (r:=A.mul i g) ?_
  rw [← mul_add,A.ido,Nat.sub_add_cancel hij,h]
 have e2:=A.mul_gcd g N (j - i) hg e
 rcases hN _ (Nat.gcd_dvd_left N (j - i)) with h1 | h1
 ·
  rw [h1,mul_one] at e2; exact absurd e2 hne
 ·
  have:=Nat.gcd_dvd_right N (j - i)
  rw [h1] at this
  rcases Nat.eq_zero_or_pos (j - i) with h0 | h0
  ·
   omega
  ·
   have:=Nat.le_of_dvd h0 this; omega
theorem all_of {g : α} {N M : Nat} (hN : ∀ d,d ∣ N → d = 1 ∨ d = N) (hodd : N % 2 = 1) (hg : A.mul N g = A.o) (hne : g ≠ A.o) (code : α → Nat) (hc : ∀ p,code p < M) (hi : ∀ p q,code p = code q → p = q) (hM : M < 3 * N)
  (no2 : ∀ p,A.op p p = A.o → p = A.o) (x : α) : A.mul N x = A.o:=by
 have inj : ∀ {i j : Nat},i < N → j < N → A.mul i g = A.mul j g → i = j:=by
  intro i j h1 h2 h
  rcases Nat.le_total i j with h3 | h3
  ·
   exact inj_of hN hg hne h2 h3 h
  ·
   exact (inj_of hN hg hne h1 h3 h.symm).symm
 have hmul : ∀ i,A.mul N (A.mul i g) = A.o:=by
  intro i
  rw [← mul_mul,Nat.mul_comm,mul_mul,hg,mul_o]
 -- what is a multiple where its double is
 have half : ∀ i y,A.op y y = A.mul i g → ∃ k,y = A.mul k g:=by
  intro i y h
  have h2 : ∃ k,A.op y y = A.mul (k + k) g:=by
   by_cases he : i % 2 = 0
   ·
    exact ⟨i / 2,by rw [h]; congr 1; omega⟩
   ·
    refine ⟨(i + N) / 2,?_⟩
    have : (i + N) / 2 + (i + N) / 2 = i + N:=by omega
    rw [this,mul_add,hg,A.oid,h]
  obtain ⟨k,h2⟩:=h2
  refine ⟨k,?_⟩
  have e:=no2 (A.op y (A.ng (A.mul k g))) (by
   rw [A.assoc,← A.assoc (A.ng (A.mul k g)),A.comm (A.ng (A.mul k g)) y,A.assoc y,← A.assoc,h2,mul_add]
   rw [A.assoc,← A.assoc (A.mul k g) (A.ng (A.mul k g)),A.ngo,A.ido,A.ngo])
  refine A.cancel (r:=A.ng (A.mul k g)) ?_
  rw [e,A.ngo]
 -- a difference of multiples is one
 have diff : ∀ {y : α} {i j : Nat},j < N → A.op y (A.mul j g) = A.mul i g → ∃ k,y = A.mul k g:=by
  intro y i j hj h
  refine ⟨i + (N - j),?_⟩
  rw [mul_add,← h,A.assoc,← mul_add,show j + (N - j) = N by omega,hg,A.oid]
 have mem : ∃ k,x = A.mul k g:=by
  refine Classical.byContradiction fun hno => ?_
  have hno2 : ¬ ∃ k,A.op x x = A.mul k g:=fun ⟨k,hk⟩ => hno (half k x hk)
  have hNpos : 0 < N:=by omega
  have sep : ∀ {c c' i i' : Nat},c' < 3 → i < N → i' < N → c ≤ c' → A.op (A.mul c x) (A.mul i g) = A.op (A.mul c' x) (A.mul i' g) → c = c' ∧ i = i':=by
   intro c c' i i' hc' hii hii' hcc h
   have e : A.op (A.mul (c' - c) x) (A.mul i' g) = A.mul i g:=by
    refine A.cancel (r:=A.mul c x) ?_
    rw [A.assoc,A.comm (A.mul i' g),← A.assoc,← mul_add,Nat.sub_add_cancel hcc,← h,A.comm]
   obtain ⟨k,hk⟩:=diff hii' e
   have hcd : c' - c = 0 ∨ c' - c = 1 ∨ c' - c = 2:=by omega
   rcases hcd with h0 | h0 | h0
   ·
    have hcc : c = c':=by omega
    subst hcc
    rw [h0] at e
    have e : A.op A.o (A.mul i' g) = A.mul i g:=e
    rw [A.ido] at e
    exact ⟨rfl,(inj hii' hii e).symm⟩
   ·
    rw [h0,mul_one] at hk; exact absurd ⟨k,hk⟩ hno
   ·
    rw [h0] at hk
    have hk : A.op (A.op A.o x) x = A.mul k g:=hk
    rw [A.ido] at hk
    exact absurd ⟨k,hk⟩ hno2
  have:=php M (3 * N) (fun t => code (A.op (A.mul (t / N) x) (A.mul (t % N) g))) (fun i _ => hc _) (by
   intro i j h1 h2 h
   have h:=hi _ _ h
   have a1 : i / N < 3:=by rw [Nat.div_lt_iff_lt_mul hNpos]; omega
   have a2 : j / N < 3:=by rw [Nat.div_lt_iff_lt_mul hNpos]; omega
   have b1:=Nat.mod_lt i hNpos
   have b2:=Nat.mod_lt j hNpos
   have r : i / N = j / N ∧ i % N = j % N:=by
    rcases Nat.le_total (i / N) (j / N) with h3 | h3
    ·
     exact sep a2 b1 b2 h3 h
    ·
     have:=sep a1 b2 b1 h3 h.symm
     exact ⟨this.1.symm,this.2.symm⟩
   rw [← Nat.div_add_mod i N,← Nat.div_add_mod j N,r.1,r.2])
  omega
 obtain ⟨k,hk⟩:=mem
 rw [hk]
 exact hmul k
end Ab
def Pr (q : Nat) : Prop:=q ≠ 1 ∧ ∀ d,d ∣ q → d = 1 ∨ d = q
def prodl : List Nat → Nat
 | [] => 1
 | q :: l => q * prodl l
theorem pr_in : ∀ (l : List Nat) (c : Nat),(∀ q,q ∈ l → Pr q) → c ∣ prodl l → c ≠ 1 → ∃ q,q ∈ l ∧ q ∣ c
 | [],c,_,h,h1 => absurd (Nat.eq_one_of_dvd_one h) h1
 | q :: l,c,hp,h,h1 => by
  rcases (hp q (List.mem_cons_self)).2 _ (Nat.gcd_dvd_right c q) with h2 | h2
  ·
   have h3 : c ∣ prodl l:=Nat.Coprime.dvd_of_dvd_mul_left h2 h
   obtain ⟨r,hr,hr2⟩:=pr_in l c (fun r hr => hp r (List.mem_cons_of_mem _ hr)) h3 h1
   exact ⟨r,List.mem_cons_of_mem _ hr,hr2⟩
  ·
   exact ⟨q,List.mem_cons_self,by rw [← h2]; exact Nat.gcd_dvd_left c q⟩
theorem part_of {l : List Nat} {N d : Nat} (hl : prodl l = N) (hp : ∀ q,q ∈ l → Pr q) (h0 : 0 < N) (hd : d ∣ N) (hne : d ≠ N) : ∃ q,q ∈ l ∧ d ∣ N / q:=by
 obtain ⟨c,hc⟩:=hd
 have hc1 : c ≠ 1:=fun h => hne (by rw [hc,h,Nat.mul_one])
 obtain ⟨q,hq,k,hk⟩:=pr_in l c hp ⟨d,by rw [hl,hc,Nat.mul_comm]⟩ hc1
 refine ⟨q,hq,k,?_⟩
 have hq0 : 0 < q:=by
  rcases Nat.eq_zero_or_pos q with h | h
  ·
   subst h; rw [Nat.zero_mul] at hk; subst hk; rw [Nat.mul_zero] at hc; omega
  ·
   exact h
 rw [hc,hk,Nat.mul_left_comm,Nat.mul_div_cancel_left _ hq0]
section power
variable {n : Nat} [NeZero n]
theorem val_one (hn : 1 < n) : (1 : Fin n).val = 1:=by
 show 1 % n = 1
 exact Nat.mod_eq_of_lt hn
def pf (g : Fin n) : Nat → Fin n
 | 0 => 1
 | k + 1 => pf g k * g
theorem zej (x : Fin n) : x * 1 = x:=by grobner
theorem zdn (x : Fin n) : 1 * x = x:=by grobner
theorem zda (x y z : Fin n) : x * y * z = x * (y * z):=by grobner
theorem zdp (x y : Fin n) : x * y = y * x:=by grobner
theorem pf_add (g : Fin n) (i k : Nat) : pf g (i + k) = pf g i * pf g k:=by
 induction k with
 | zero => exact (zej _).symm
 | succ k ih => show pf g (i + k) * g = pf g i * (pf g k * g); rw [ih,zda]
theorem pf_one (k : Nat) : pf (1 : Fin n) k = 1:=by
 induction k with
 | zero => rfl
 | succ k ih => show pf 1 k * 1 = 1; rw [ih,zej]
theorem pf_mul (g : Fin n) (i k : Nat) : pf g (i * k) = pf (pf g i) k:=by
 induction k with
 | zero => rfl
 | succ k ih => rw [Nat.mul_succ,pf_add,ih]; rfl
theorem pf_gcd (g : Fin n) (i k : Nat) : pf g i = 1 → pf g k = 1 → pf g (Nat.gcd i k) = 1:=by
 refine Nat.gcd.induction i k ?_ ?_
 ·
  intro k _ h
  rwa [Nat.gcd_zero_left]
 ·
  intro i k hi ih h1 h2
  rw [Nat.gcd_rec]
  refine ih ?_ h1
  have e:=Nat.div_add_mod k i
  rw [← e,pf_add,pf_mul,h1,pf_one,zdn] at h2
  exact h2
theorem pf_dvd (g : Fin n) {i k : Nat} (h : i ∣ k) (h1 : pf g i = 1) : pf g k = 1:=by
 obtain ⟨c,rfl⟩:=h
 rw [pf_mul,h1,pf_one]
structure Root (g : Fin n) : Prop where
 one : pf g (n - 1) = 1
 all : ∀ x : Fin n,x ≠ 0 → ∃ i,x = pf g i
theorem root_of {g : Fin n} {l : List Nat} (hn : 1 < n) (hl : prodl l = n - 1) (hp : ∀ q,q ∈ l → Pr q) (h1 : pf g (n - 1) = 1) (hq : ∀ q,q ∈ l → pf g ((n - 1) / q) ≠ 1) : Root g:=by
 refine ⟨h1,?_⟩
 have z1 : (0 : Fin n) ≠ 1:=by
  intro h
  have h : (0 : Fin n).val = (1 : Fin n).val:=congrArg Fin.val h
  rw [Fin.val_zero,val_one hn] at h
  omega
 have big : ∀ e,0 < e → e < n - 1 → pf g e ≠ 1:=by
  intro e h0 h2 h3
  have h4:=pf_gcd g (n - 1) e h1 h3
  have hle:=Nat.le_of_dvd h0 (Nat.gcd_dvd_right (n - 1) e)
  obtain ⟨q,hql,hqd⟩:=part_of hl hp (by omega) (Nat.gcd_dvd_left (n - 1) e) (by omega)
  exact hq q hql (pf_dvd g hqd h4)
 have nz : ∀ i,i < n → pf g i ≠ 0:=by
  intro i hi h
  have e : pf g (i + (n - 1 - i)) = 1 ∨ i = n - 1 + 1:=by
   left
   rw [show i + (n - 1 - i) = n - 1 by omega,h1]
  rcases e with e | e
  ·
   rw [pf_add,h] at e
   exact z1 (by rw [← e]; grobner)
  ·
   omega
 have inj : ∀ i j,i < j → j < n → 0 < i → pf g i ≠ pf g j:=by
  intro i j h2 h3 h0 h
  refine big (j - i) (by omega) (by omega) ?_
  have e1 : pf g i * pf g (n - 1 - i) = 1:=by rw [← pf_add,show i + (n - 1 - i) = n - 1 by omega,h1]
  have e2 : pf g j = pf g (j - i) * pf g i:=by rw [← pf_add,show j - i + i = j by omega]
  rw [e2] at h
  have e3 : pf g i * pf g (n - 1 - i) = pf g (j - i) * (pf g i * pf g (n - 1 - i)):=by rw [← zda,← h]
  rw [e1,zej] at e3
  exact e3.symm
 intro x hx
 refine Classical.byContradiction fun hno => ?_
 have hx0 : x.val ≠ 0:=fun h => hx (Fin.ext (by rw [h,Fin.val_zero]))
 have hno2 : ∀ i,(pf g i).val ≠ x.val:=fun i h => hno ⟨i,Fin.ext h.symm⟩
 have nz2 : ∀ i,i < n → (pf g i).val ≠ 0:=fun i hi h => nz i hi (Fin.ext (by rw [h,Fin.val_zero]))
 have:=php (n - 2) (n - 1) (fun i => if (pf g (i + 1)).val = n - 1 then x.val - 1 else (pf g (i + 1)).val - 1) (by
  intro i hi
  have a1:=nz2 (i + 1) (by omega)
  have a2:=(pf g (i + 1)).isLt
  have a3:=hno2 (i + 1)
  have a4:=x.isLt
  show (if (pf g (i + 1)).val = n - 1 then x.val - 1 else (pf g (i + 1)).val - 1) < n - 2
  split <;> omega) (by
  intro i j hi hj h
  have h : (if (pf g (i + 1)).val = n - 1 then x.val - 1 else (pf g (i + 1)).val - 1) = (if (pf g (j + 1)).val = n - 1 then x.val - 1 else (pf g (j + 1)).val - 1):=h
  have a1:=nz2 (i + 1) (by omega)
  have b1:=nz2 (j + 1) (by omega)
  have a3:=hno2 (i + 1)
  have b3:=hno2 (j + 1)
  have e : (pf g (i + 1)).val = (pf g (j + 1)).val:=by
   split at h <;> split at h <;> omega
  have e : pf g (i + 1) = pf g (j + 1):=Fin.ext e
  rcases Nat.lt_trichotomy i j with h3 | h3 | h3
  ·
   exact absurd e (inj _ _ (by omega) (by omega) (by omega))
  ·
   exact h3
  ·
   exact absurd e.symm (inj _ _ (by omega) (by omega) (by omega)))
 omega
theorem root_inv {g : Fin n} (h : Root g) {x : Fin n} (hx : x ≠ 0) : pf x (n - 1) = 1:=by
 obtain ⟨i,rfl⟩:=h.all x hx
 rw [← pf_mul,Nat.mul_comm,pf_mul,h.one,pf_one]
theorem zew {g : Fin n} (h : Root g) (hn : 1 < n) {x : Fin n} (hx : x ≠ 0) : x * pf x (n - 2) = 1:=by
 have:=root_inv h hx
 rw [show n - 1 = n - 2 + 1 by omega] at this
 rw [zdp]
 exact this
theorem root_noz {g : Fin n} (h : Root g) (hn : 1 < n) (x y : Fin n) (e : x * y = 0) : x = 0 ∨ y = 0:=by
 by_cases hx : x = 0
 ·
  exact Or.inl hx
 ·
  have hi:=zew h hn hx
  generalize pf x (n - 2) = i at hi
  right
  have : y = x * i * y:=by rw [hi,zdn]
  rw [this,zdp x i,zda,e]
  clear this hi e hx h
  grobner
theorem root_pr {g : Fin n} (h : Root g) (hn : 1 < n) : Pr n:=by
 refine ⟨by omega,fun d hd => ?_⟩
 have hle:=Nat.le_of_dvd (by omega) hd
 rcases Nat.lt_or_ge d n with hlt | hge
 ·
  left
  have hd0 : 0 < d:=Nat.pos_of_dvd_of_pos hd (by omega)
  have hx : (⟨d,hlt⟩ : Fin n) ≠ 0:=fun e => by have:=congrArg Fin.val e; rw [Fin.val_zero] at this; have this : d = 0:=this; omega
  have hi:=zew h hn hx
  generalize pf (⟨d,hlt⟩ : Fin n) (n - 2) = i at hi
  have hi:=congrArg Fin.val hi
  rw [Fin.val_mul,val_one hn] at hi
  have hi : d * i.val % n = 1:=hi
  have h2 : d ∣ d * i.val % n:=(Nat.dvd_mod_iff hd).mpr ⟨i.val,rfl⟩
  rw [hi] at h2
  exact Nat.eq_one_of_dvd_one h2
 ·
  right; omega
end power
def pw (m : Nat) : Nat → Nat → Nat → Nat
 | 0,_,_ => 1 % m
 | f + 1,b,e => if e = 0 then 1 % m else if e % 2 = 1 then b * pw m f (b * b % m) (e / 2) % m else pw m f (b * b % m) (e / 2)
section number
variable {n : Nat} [NeZero n]
def F (x : Nat) : Fin n:=⟨x % n,Nat.mod_lt _ (Nat.pos_of_ne_zero (NeZero.ne n))⟩
theorem F_mod (x : Nat) : (F (x % n) : Fin n) = F x:=Fin.ext (Nat.mod_mod _ _)
theorem F_mul (x y : Nat) : (F (x * y) : Fin n) = F x * F y:=Fin.ext (by rw [Fin.val_mul]; exact Nat.mul_mod _ _ _)
theorem F_add (x y : Nat) : (F (x + y) : Fin n) = F x + F y:=Fin.ext (by rw [Fin.val_add]; exact Nat.add_mod _ _ _)
theorem F_val (x : Fin n) : F x.val = x:=Fin.ext (Nat.mod_eq_of_lt x.isLt)
theorem pf_sq (x : Fin n) (k : Nat) : pf (x * x) k = pf x (2 * k):=by
 rw [pf_mul]
 congr 1
 show x * x = 1 * x * x
 rw [zdn]
theorem pw_pf : ∀ (f b e : Nat),e < 2 ^ f → pw n f b e = (pf (F b : Fin n) e).val
 | 0,b,e,h => by
  have : e = 0:=by omega
  subst this
  rfl
 | f + 1,b,e,h => by
  unfold pw
  have hd : e / 2 < 2 ^ f:=by rw [Nat.pow_succ] at h; omega
  have ih:=pw_pf f (b * b % n) (e / 2) hd
  rw [F_mod,F_mul,pf_sq] at ih
  by_cases h0 : e = 0
  ·
   rw [if_pos h0,h0]; rfl
  ·
   rw [if_neg h0]
   by_cases h1 : e % 2 = 1
   ·
    rw [if_pos h1,ih]
    have e1 : e = 2 * (e / 2) + 1:=by omega
    generalize e / 2 = k at e1
    subst e1
    show _ = (pf (F b) (2 * k) * F b).val
    rw [Fin.val_mul,Nat.mul_comm]
    show (pf (F b : Fin n) (2 * k)).val * b % n = (pf (F b : Fin n) (2 * k)).val * (b % n) % n
    rw [Nat.mul_mod _ (b % n),Nat.mod_mod,← Nat.mul_mod]
   ·
    rw [if_neg h1,ih]
    congr 2
    omega
end number
def rowOk (ps : List Nat) (r : Nat × Nat × List Nat) : Bool :=
 decide (1 < r.1) && decide (r.1 < 2 ^ 256) && decide (prodl r.2.2 = r.1 - 1) && r.2.2.all (fun q => ps.contains q) && decide (pw r.1 256 r.2.1 (r.1 - 1) = 1) && r.2.2.all (fun q => decide (pw r.1 256 r.2.1 ((r.1 - 1) / q) ≠ 1))
theorem row_root {ps : List Nat} {n g : Nat} {l : List Nat} [NeZero n] (hp : ∀ q,q ∈ ps → Pr q) (h : rowOk ps (n,g,l) = true) : 1 < n ∧ Root (F g : Fin n):=by
 unfold rowOk at h
 simp only [Bool.and_eq_true,decide_eq_true_eq,List.all_eq_true] at h
 obtain ⟨⟨⟨⟨⟨h1,h2⟩,h3⟩,h4⟩,h5⟩,h6⟩:=h
 have h5 : pw n 256 g (n - 1) = 1:=h5
 have h1 : 1 < n:=h1
 have h2 : n < 2 ^ 256:=h2
 refine ⟨h1,root_of (l:=l) h1 h3 (fun q hq => hp q (by have:=h4 q hq; exact List.contains_iff_mem.mp this)) ?_ ?_⟩
 ·
  apply Fin.ext
  exact (pw_pf (n:=n) 256 g (n - 1) (Nat.lt_of_le_of_lt (Nat.sub_le _ _) h2)).symm.trans (h5.trans (val_one h1).symm)
 ·
  intro q hq e
  have h6 : pw n 256 g ((n - 1) / q) ≠ 1:=h6 q hq
  refine h6 ?_
  have e2:=pw_pf (n:=n) 256 g ((n - 1) / q) (Nat.lt_of_le_of_lt (Nat.div_le_self _ _) (Nat.lt_of_le_of_lt (Nat.sub_le _ _) h2))
  rw [e2]
  exact (congrArg Fin.val e).trans (val_one h1)
def tabOk : List Nat → List (Nat × Nat × List Nat) → Bool
 | _,[] => true
 | ps,r :: t => rowOk ps r && tabOk (r.1 :: ps) t
theorem row_pr {ps : List Nat} {r : Nat × Nat × List Nat} (hp : ∀ q,q ∈ ps → Pr q) (h : rowOk ps r = true) : Pr r.1:=by
 obtain ⟨n,g,l⟩:=r
 show Pr n
 have h1 : 1 < n:=by
  unfold rowOk at h
  simp only [Bool.and_eq_true,decide_eq_true_eq] at h
  exact h.1.1.1.1.1
 haveI : NeZero n:=⟨by omega⟩
 exact root_pr (row_root hp h).2 h1
theorem tab_pr : ∀ (t : List (Nat × Nat × List Nat)) (ps : List Nat),(∀ q,q ∈ ps → Pr q) → tabOk ps t = true → ∀ r,r ∈ t → Pr r.1 ∧ ∃ ps',(∀ q,q ∈ ps' → Pr q) ∧ rowOk ps' r = true
 | [],_,_,_,r,hr => absurd hr List.not_mem_nil
 | r0 :: t,ps,hp,h,r,hr => by
  have h : (rowOk ps r0 && tabOk (r0.1 :: ps) t) = true:=h
  rw [Bool.and_eq_true] at h
  have h0:=row_pr hp h.1
  rcases List.mem_cons.mp hr with e | e
  ·
   rw [e]; exact ⟨h0,ps,hp,h.1⟩
  ·
   refine tab_pr t (r0.1 :: ps) ?_ h.2 r e
   intro q hq
   rcases List.mem_cons.mp hq with e | e
   ·
    rw [e]; exact h0
   ·
    exact hp q e
theorem pr_two : Pr 2:=by
 refine ⟨by decide,fun d hd => ?_⟩
 have:=Nat.le_of_dvd (by decide) hd
 have h0 : d ≠ 0:=by rintro rfl; omega
 omega
def tab : List (Nat × Nat × List Nat):=[
 (257,3,[2,2,2,2,2,2,2,2]),
 (3,2,[2]),
 (5,2,[2,2]),
 (641,3,[2,2,2,2,2,2,2,5]),
 (65537,3,[2,2,2,2,2,2,2,2,2,2,2,2,2,2,2,2]),
 (11,2,[2,5]),
 (727,5,[2,3,11,11]),
 (17449,14,[2,2,2,3,727]),
 (6700417,5,[2,2,2,2,2,2,2,3,17449]),
 (241,7,[2,2,2,2,3,5]),
 (2411,6,[2,5,241]),
 (17,3,[2,2,2,2]),
 (7,3,[2,3]),
 (197,2,[2,2,7,7]),
 (43,3,[2,3,7]),
 (173,2,[2,2,43]),
 (13,2,[2,2,3]),
 (53,2,[2,2,13]),
 (919,7,[2,3,3,3,17]),
 (3677,2,[2,2,919]),
 (66417393611,6,[2,5,53,173,197,3677]),
 (11290956913871,13,[2,5,17,66417393611]),
 (181,2,[2,2,3,3,5]),
 (1087,3,[2,3,181]),
 (4349,2,[2,2,1087]),
 (78283,3,[2,3,3,4349]),
 (23,5,[2,11]),
 (757,2,[2,2,3,3,3,7]),
 (18169,11,[2,2,2,3,757]),
 (313,10,[2,2,2,3,13]),
 (704251,2,[2,3,3,5,5,5,313]),
 (46076956964474543,5,[2,23,18169,78283,704251]),
 (107,2,[2,53]),
 (157,5,[2,2,3,13]),
 (3769,7,[2,2,2,3,157]),
 (204061199,11,[2,11,23,107,3769]),
 (34282281433,17,[2,2,2,3,7,204061199]),
 (0x22b559b5c816ae00f2378e18df38c5410ed597,3,[2,3,3,2411,34282281433,11290956913871,46076956964474543]),
 (0x926d1276e41fae13fdda5f78edb7802a76951509,11,[2,2,2,3,3,3,5,0x22b559b5c816ae00f2378e18df38c5410ed597]),
 (1531,2,[2,3,3,5,17]),
 (661,2,[2,2,3,5,11]),
 (490463,14,[2,7,53,661]),
 (0xffffffff00000001000000000000000000000000ffffffffffffffffffffffff,6,[2,3,5,5,17,257,641,1531,65537,490463,6700417,0x926d1276e41fae13fdda5f78edb7802a76951509]),
 (131,2,[2,5,13]),
 (71,7,[2,5,7]),
 (37,2,[2,2,3,3]),
 (9547,2,[2,3,37,43]),
 (38189,2,[2,2,9547]),
 (3407,5,[2,13,131]),
 (263,5,[2,131]),
 (126241,7,[2,2,2,2,2,3,5,263]),
 (19,2,[2,3,3]),
 (337,10,[2,2,2,2,3,7]),
 (31,3,[2,3,5]),
 (104471,11,[2,5,31,337]),
 (3969899,2,[2,19,104471]),
 (1002328039319,19,[2,126241,3969899]),
 (97,5,[2,2,2,2,2,3]),
 (29,2,[2,2,7]),
 (16879,3,[2,3,29,97]),
 (1297,10,[2,2,2,2,3,3,3,3]),
 (41,6,[2,2,2,5]),
 (155317,5,[2,2,3,7,43,43]),
 (191039911,3,[2,3,5,41,155317]),
 (151,6,[2,3,5,5]),
 (1511,11,[2,5,151]),
 (3023,5,[2,1511]),
 (127,3,[2,3,3,7]),
 (208150935158385979,2,[2,3,11,43,127,3023,191039911]),
 (2624747550333869278416773953,7,[2,2,2,2,2,2,3,3,1297,16879,208150935158385979]),
 (373,2,[2,2,3,31]),
 (311,17,[2,5,31]),
 (311245691,2,[2,5,7,17,29,29,311]),
 (622491383,5,[2,311245691]),
 (1201,11,[2,2,2,2,3,5,5]),
 (229,6,[2,2,3,19]),
 (9350987,2,[2,17,229,1201]),
 (187019741,2,[2,2,5,9350987]),
 (0xffffffff00000000ffffffffffffffffbce6faada7179e84f3b9cac2fc632551,7,[2,2,2,2,3,71,131,373,3407,17449,38189,187019741,622491383,1002328039319,2624747550333869278416773953])]
theorem tab_ok : tabOk [2] tab = true:=by decide +kernel
def pp : Nat:=0xffffffff00000001000000000000000000000000ffffffffffffffffffffffff
def nn : Nat:=0xffffffff00000000ffffffffffffffffbce6faada7179e84f3b9cac2fc632551
instance : NeZero pp:=⟨by decide +kernel⟩
instance : NeZero nn:=⟨by decide +kernel⟩
theorem two_only : ∀ q,q ∈ [2] → Pr q:=by
 intro q hq
 have : q = 2:=List.mem_singleton.mp hq
 rw [this]
 exact pr_two
theorem pp_root : ∃ g : Fin pp,Root g:=by
 obtain ⟨ps,hp,h⟩:=(tab_pr tab [2] two_only tab_ok (0xffffffff00000001000000000000000000000000ffffffffffffffffffffffff,6,[2,3,5,5,17,257,641,1531,65537,490463,6700417,0x926d1276e41fae13fdda5f78edb7802a76951509]) (by decide +kernel)).2
 exact ⟨_,(row_root (n:=pp) hp h).2⟩
theorem nn_pr : Pr nn:=(tab_pr tab [2] two_only tab_ok (0xffffffff00000000ffffffffffffffffbce6faada7179e84f3b9cac2fc632551,7,[2,2,2,2,3,71,131,373,3407,17449,38189,187019741,622491383,1002328039319,2624747550333869278416773953]) (by decide +kernel)).1
/-! P-256. -/
def bb : Nat:=0x5ac635d8aa3a93e7b3ebbd55769886bc651d06b0cc53b0f63bce3c3e27d2604b
def gx : Nat:=0x6b17d1f2e12c4247f8bce6e563a440f277037d812deb33a0f4a13945d898c296
def gy : Nat:=0x4fe342e2fe1a7f9b8ee7eb4a7c0f9e162bce33576b315ececbb6406837bf51f5
def E256 : Cur pp:={ a:=F (pp - 3),b:=F bb,inv:=fun x => pf x (pp - 2) }
theorem pp_big : 3 < pp:=by decide +kernel
theorem F_pp : (F pp : Fin pp) = 0:=Fin.ext (Nat.mod_self pp)
theorem F_one : (F 1 : Fin pp) = 1:=rfl
theorem F_zero : (F 0 : Fin pp) = 0:=rfl
theorem F_three : (F 3 : Fin pp) = 3:=rfl
def sb (x y : Nat) : Nat:=(x + (pp - y % pp)) % pp
theorem F_sb (x y : Nat) : (F (sb x y) : Fin pp) = F x - F y:=by
 have h1 : y % pp ≤ pp:=Nat.le_of_lt (Nat.mod_lt _ (Nat.lt_trans (by decide) pp_big))
 have e : (F (pp - y % pp) : Fin pp) + F y = 0:=by
  rw [← F_mod y,← F_add,Nat.sub_add_cancel h1,F_pp]
 unfold sb
 rw [F_mod,F_add]
 generalize (F (pp - y % pp) : Fin pp) = z at e
 generalize (F y : Fin pp) = v at e ⊢
 clear h1
 grobner
theorem F_p3 : (F (pp - 3) : Fin pp) = - 3:=by
 have e : (F (pp - 3) : Fin pp) + 3 = 0:=by
  rw [← F_three,← F_add,Nat.sub_add_cancel (Nat.le_of_lt pp_big),F_pp]
 generalize (F (pp - 3) : Fin pp) = z at e ⊢
 grobner
def tm (u v : Nat × Nat × Nat) : Nat × Nat × Nat :=
 let r3:=u.2.1 * v.2.2 + u.2.2 * v.2.1
 let r4:=u.2.2 * v.2.2
 ((u.1 * v.1 + (pp - bb) * r3) % pp,(u.1 * v.2.1 + u.2.1 * v.1 + 3 * r3 + (pp - bb) * r4) % pp,(u.1 * v.2.2 + u.2.1 * v.2.1 + u.2.2 * v.1 + 3 * r4) % pp)
def ev (u : Nat × Nat × Nat) (r : Fin pp) : Fin pp:=F u.1 + F u.2.1 * r + F u.2.2 * (r * r)
theorem F_bb : (F (pp - bb) : Fin pp) = - F bb:=by
 have e : (F (pp - bb) : Fin pp) + F bb = 0:=by
  rw [← F_add,Nat.sub_add_cancel (by decide +kernel),F_pp]
 generalize (F (pp - bb) : Fin pp) = z at e ⊢
 generalize (F bb : Fin pp) = v at e ⊢
 grobner
theorem ring_tm {n : Nat} [NeZero n] (a0 a1 a2 b0 b1 b2 b r : Fin n) (h : r * r * r = 3 * r - b) : (a0 * b0 + - b * (a1 * b2 + a2 * b1)) + (a0 * b1 + a1 * b0 + 3 * (a1 * b2 + a2 * b1) + - b * (a2 * b2)) * r + (a0 * b2 + a1 * b1 + a2 * b0 + 3 * (a2 * b2)) * (r * r) = (a0 + a1 * r + a2 * (r * r)) * (b0 + b1 * r + b2 * (r * r)):=by
 have : b = 3 * r - r * r * r:=by grobner
 subst this
 clear h
 grobner
theorem tm_ev {r : Fin pp} (h : r * r * r = 3 * r - F bb) (u v : Nat × Nat × Nat) : ev (tm u v) r = ev u r * ev v r:=by
 obtain ⟨a0,a1,a2⟩:=u
 obtain ⟨b0,b1,b2⟩:=v
 unfold tm ev
 dsimp only
 rw [F_mod,F_mod,F_mod]
 simp only [F_add,F_mul]
 rw [F_bb,F_three]
 exact ring_tm _ _ _ _ _ _ _ _ h
def tp : Nat → Nat × Nat × Nat → Nat → Nat × Nat × Nat
 | 0,_,_ => (1,0,0)
 | f + 1,u,e => if e = 0 then (1,0,0) else if e % 2 = 1 then tm u (tp f (tm u u) (e / 2)) else tp f (tm u u) (e / 2)
theorem ring_one {n : Nat} [NeZero n] (r : Fin n) : 1 + 0 * r + 0 * (r * r) = 1:=by grobner
theorem ev_one (r : Fin pp) : ev (1,0,0) r = 1:=by
 unfold ev
 dsimp only
 rw [F_one,F_zero]
 exact ring_one r
theorem tp_ev {r : Fin pp} (h : r * r * r = 3 * r - F bb) : ∀ (f : Nat) (u : Nat × Nat × Nat) (e : Nat),e < 2 ^ f → ev (tp f u e) r = pf (ev u r) e
 | 0,u,e,he => by
  have : e = 0:=by omega
  subst this
  exact ev_one r
 | f + 1,u,e,he => by
  unfold tp
  have hd : e / 2 < 2 ^ f:=by rw [Nat.pow_succ] at he; omega
  have ih:=tp_ev h f (tm u u) (e / 2) hd
  rw [tm_ev h,pf_sq] at ih
  by_cases h0 : e = 0
  ·
   rw [if_pos h0,h0]; exact ev_one r
  ·
   rw [if_neg h0]
   by_cases h1 : e % 2 = 1
   ·
    rw [if_pos h1,tm_ev h,ih]
    have e1 : e = 2 * (e / 2) + 1:=by omega
    generalize e / 2 = k at e1
    subst e1
    exact zdp _ _
   ·
    rw [if_neg h1,ih]
    congr 1
    omega
def tq : Nat × Nat × Nat:=tp 256 (0,1,0) pp
theorem tq_ok : tm (0xa969487079f1744798bf0de6fded091b66e9d328eb0645fe5d979d1339b7f47f,0xa4a08891884100c13323460107a8d28eede4387fa3e6e9bfebec9f6d72d0b5cc,0x4cde11cf86cb876cd59cf0115813c55af0ecd3cda667d98bb9a347a56aa74a6d) (tq.1,tq.2.1 + (pp - 1),tq.2.2) = (1,0,0):=by decide +kernel
theorem no_root (r : Fin pp) : r * r * r + F (pp - 3) * r + F bb ≠ 0:=by
 intro h
 rw [F_p3] at h
 have h3 : r * r * r = 3 * r - F bb:=by
  generalize (F bb : Fin pp) = v at h ⊢
  grobner
 obtain ⟨g,hg⟩:=pp_root
 have e1 : ev tq r = r:=by
  unfold tq
  rw [tp_ev h3 256 _ pp (by decide +kernel)]
  have e0 : ev (0,1,0) r = r:=by
   unfold ev
   dsimp only
   rw [F_one,F_zero]
   clear h h3
   grobner
  rw [e0]
  by_cases hr : r = 0
  ·
   subst hr
   show pf 0 (pp - 1) * 0 = 0
   generalize pf (0 : Fin pp) (pp - 1) = z
   grobner
  ·
   have e2:=root_inv hg hr
   have e3 : pf r (pp - 1 + 1) = pf r (pp - 1) * r:=rfl
   rw [e2,zdn,show pp - 1 + 1 = pp by decide +kernel] at e3
   exact e3
 have e2 : ev (tq.1,tq.2.1 + (pp - 1),tq.2.2) r = ev tq r - r:=by
  have e4 : (F (pp - 1) : Fin pp) = - 1:=by
   have e : (F (pp - 1) : Fin pp) + 1 = 0:=by
    rw [← F_one,← F_add,Nat.sub_add_cancel (by decide +kernel),F_pp]
   generalize (F (pp - 1) : Fin pp) = z at e ⊢
   grobner
  unfold ev
  dsimp only
  rw [F_add,e4]
  generalize (F tq.1 : Fin pp) = a0
  generalize (F tq.2.1 : Fin pp) = a1
  generalize (F tq.2.2 : Fin pp) = a2
  clear h h3 e1
  grobner
 have e5:=tm_ev h3 (0xa969487079f1744798bf0de6fded091b66e9d328eb0645fe5d979d1339b7f47f,0xa4a08891884100c13323460107a8d28eede4387fa3e6e9bfebec9f6d72d0b5cc,0x4cde11cf86cb876cd59cf0115813c55af0ecd3cda667d98bb9a347a56aa74a6d) (tq.1,tq.2.1 + (pp - 1),tq.2.2)
 rw [tq_ok,e2,e1,ev_one] at e5
 generalize ev _ r = z at e5
 have z1 : (0 : Fin pp) ≠ 1:=by decide +kernel
 refine z1 ?_
 rw [e5]
 clear e5 h h3 e1 e2
 grobner
theorem good : Good E256:=by
 obtain ⟨g,hg⟩:=pp_root
 have h1 : 1 < pp:=Nat.lt_trans (by decide) pp_big
 exact { hz:=root_noz hg h1,nt:=no_root,two:=by decide +kernel,hinv:=fun x hx => zew hg h1 hx }
abbrev Q:={ p : P pp // E256.on p }
def grp : Ab Q where
 op p q:=⟨E256.add p.1 q.1,on_add good p.2 q.2⟩
 o:=⟨none,trivial⟩
 ng p:=⟨neg p.1,zcy p.2⟩
 comm p q:=Subtype.ext (zbd good p.2 q.2)
 assoc p q r:=Subtype.ext (assoc good p.2 q.2 r.2)
 ido p:=Subtype.ext (none_add E256 p.1)
 ngo p:=Subtype.ext (zez E256 p.1)
theorem on_base : E256.on (some (F gx,F gy)):=by
 show F gy * F gy = F gx * F gx * F gx + F (pp - 3) * F gx + F bb
 rw [← F_mul,← F_mul,← F_mul,← F_mul,← F_add,← F_add]
 exact Fin.ext (by decide +kernel)
def base : Q:=⟨some (F gx,F gy),on_base⟩
def lineOk (l x y x2 y2 : Nat) : Bool:=decide (l * sb x2 x % pp = sb y2 y) && decide (l * (y + y2) % pp = (x * x + x * x2 + x2 * x2 + (pp - 3)) % pp) && (decide (sb x x2 ≠ 0) || decide ((y + y2) % pp ≠ 0))
theorem line_add {l x y x2 y2 : Nat} (h : lineOk l x y x2 y2 = true) (h1 : E256.on (some (F x,F y))) (h2 : E256.on (some (F x2,F y2))) :
  E256.add (some (F x,F y)) (some (F x2,F y2)) = some (F (sb (sb (l * l) x) x2),F (sb (l * sb x (sb (sb (l * l) x) x2)) y)):=by
 unfold lineOk at h
 simp only [Bool.and_eq_true,Bool.or_eq_true,decide_eq_true_eq] at h
 obtain ⟨⟨g1,g2⟩,g3⟩:=h
 have s1 : F l * (F x2 - F x) = (F y2 - F y : Fin pp):=by rw [← F_sb,← F_mul,← F_mod,g1,F_sb]
 have s2 : F l * (F y + F y2) = (F x * F x + F x * F x2 + F x2 * F x2 + F (pp - 3) : Fin pp):=by
  rw [← F_add,← F_mul,← F_mod,g2,F_mod,F_add,F_add,F_add,F_mul,F_mul,F_mul]
 have hn : ¬ ((F x : Fin pp) = F x2 ∧ (F y + F y2 : Fin pp) = 0):=by
  rintro ⟨e1,e2⟩
  rcases g3 with g | g
  ·
   refine g ?_
   have : (F (sb x x2) : Fin pp) = 0:=by
    rw [F_sb,e1]
    generalize (F x2 : Fin pp) = v
    clear s1 s2 e1 e2
    grobner
   have:=congrArg Fin.val this
   have this : sb x x2 % pp = 0:=this
   unfold sb at this ⊢
   rwa [Nat.mod_mod] at this
  ·
   refine g ?_
   rw [← F_add] at e2
   exact congrArg Fin.val e2
 rw [zcc good h1 h2 hn ⟨s1,s2⟩]
 unfold third
 simp only [F_sb,F_mul]
def chain : List (Bool × Nat) → Nat → Nat → Nat → Option (Nat × Nat × Nat)
 | [],k,x,y => some (k,x,y)
 | (true,l) :: t,k,x,y => if lineOk l x y x y = true then chain t (k + k) (sb (sb (l * l) x) x) (sb (l * sb x (sb (sb (l * l) x) x)) y) else none
 | (false,l) :: t,k,x,y => if lineOk l x y gx gy = true then chain t (k + 1) (sb (sb (l * l) x) gx) (sb (l * sb x (sb (sb (l * l) x) gx)) y) else none
theorem chain_mul : ∀ (t : List (Bool × Nat)) (k x y : Nat) (r : Nat × Nat × Nat),(grp.mul k base).1 = some (F x,F y) → chain t k x y = some r → (grp.mul r.1 base).1 = some (F r.2.1,F r.2.2)
 | [],k,x,y,r,h,e => by
  have e : some (k,x,y) = some r:=e
  obtain rfl:=Option.some.inj e
  exact h
 | (true,l) :: t,k,x,y,r,h,e => by
  have hon:=(grp.mul k base).2
  rw [h] at hon
  have e : (if lineOk l x y x y = true then chain t (k + k) (sb (sb (l * l) x) x) (sb (l * sb x (sb (sb (l * l) x) x)) y) else none) = some r:=e
  by_cases hk : lineOk l x y x y = true
  ·
   rw [if_pos hk] at e
   refine chain_mul t _ _ _ r ?_ e
   rw [grp.mul_add]
   show E256.add (grp.mul k base).1 (grp.mul k base).1 = _
   rw [h]
   exact line_add hk hon hon
  ·
   rw [if_neg hk] at e; exact absurd e (by simp)
 | (false,l) :: t,k,x,y,r,h,e => by
  have hon:=(grp.mul k base).2
  rw [h] at hon
  have e : (if lineOk l x y gx gy = true then chain t (k + 1) (sb (sb (l * l) x) gx) (sb (l * sb x (sb (sb (l * l) x) gx)) y) else none) = some r:=e
  by_cases hk : lineOk l x y gx gy = true
  ·
   rw [if_pos hk] at e
   refine chain_mul t _ _ _ r ?_ e
   show E256.add (grp.mul k base).1 base.1 = _
   rw [h]
   exact line_add hk hon on_base
  ·
   rw [if_neg hk] at e; exact absurd e (by simp)
def eu : Nat → Nat → Nat → Nat → Nat → Nat
 | 0,_,_,s,_ => s
 | f + 1,r,r2,s,s2 => if r2 = 0 then s else eu f r2 (r % r2) s2 ((s + (pp - r / r2 % pp) * s2) % pp)
def iv (x : Nat) : Nat:=eu 600 (x % pp) pp 1 0
def steps' : Nat → Nat → Nat → List (Bool × Nat)
 | 0,_,_ => []
 | i + 1,x,y =>
  (fun l => (true,l) :: (fun x1 y1 => if (nn - 1) / 2 ^ i % 2 = 1 then (fun m => (false,m) :: (fun x2 y2 => steps' i x2 y2) (sb (sb (m * m) x1) gx) (sb (m * sb x1 (sb (sb (m * m) x1) gx)) y1)) (sb gy y1 * iv (sb gx x1) % pp) else steps' i x1 y1) (sb (sb (l * l) x) x) (sb (l * sb x (sb (sb (l * l) x) x)) y)) ((3 * x * x + (pp - 3)) * iv (y + y) % pp)
def steps : List (Bool × Nat):=steps' 255 gx gy
theorem steps_ok : chain steps 1 gx gy = some (nn - 1,gx,pp - gy):=by decide +kernel
theorem nn_base : grp.mul nn base = grp.o:=by
 have h:=chain_mul steps 1 gx gy _ (by rw [grp.mul_one]; rfl) steps_ok
 have h : (grp.mul (nn - 1) base).1 = some (F gx,F (pp - gy)):=h
 have e : nn = nn - 1 + 1:=by decide +kernel
 rw [e,grp.mul_succ]
 apply Subtype.ext
 generalize grp.mul (nn - 1) base = q at h ⊢
 show E256.add q.1 (some (F gx,F gy)) = none
 rw [h]
 refine zbx E256 ⟨rfl,?_⟩
 rw [← F_add,Nat.sub_add_cancel (by decide +kernel),F_pp]
def code : Q → Nat
 | ⟨none,_⟩ => 0
 | ⟨some (x,y),_⟩ => 1 + 2 * x.val + (if y.val ≤ (- y).val then 0 else 1)
theorem code_lt (q : Q) : code q < 2 * pp + 1:=by
 obtain ⟨_ | ⟨x,y⟩,h⟩:=q
 ·
  show 0 < _; omega
 ·
  have:=x.isLt
  show 1 + 2 * x.val + (if y.val ≤ (- y).val then 0 else 1) < _
  split <;> omega
theorem code_inj (q r : Q) (h : code q = code r) : q = r:=by
 obtain ⟨_ | ⟨x,y⟩,hq⟩:=q <;> obtain ⟨_ | ⟨x',y'⟩,hr⟩:=r
 ·
  rfl
 ·
  exfalso
  have h : 0 = 1 + 2 * x'.val + (if y'.val ≤ (- y').val then 0 else 1):=h
  omega
 ·
  exfalso
  have h : 1 + 2 * x.val + (if y.val ≤ (- y).val then 0 else 1) = 0:=h
  omega
 ·
  change 1 + 2 * x.val + (if y.val ≤ (- y).val then 0 else 1) = 1 + 2 * x'.val + (if y'.val ≤ (- y').val then 0 else 1) at h
  have hx : x = x':=Fin.ext (by split at h <;> split at h <;> omega)
  subst hx
  have h2 : (if y.val ≤ (- y).val then 0 else 1) = (if y'.val ≤ (- y').val then 0 else 1):=by omega
  clear h
  change OnC _ _ _ _ at hq hr
  unfold OnC at hq hr
  have e : (y - y') * (y + y') = 0:=by
   have : y * y = y' * y':=by rw [hq,hr]
   clear hq hr h2
   grobner
  rcases good.hz _ _ e with e | e
  ·
   have hy : y = y':=eq_of_sub e
   subst hy
   rfl
  ·
   have hy : y' = - y:=by clear hq hr h2; grobner
   have hy2 : y = - y':=by clear hq hr h2 hy; grobner
   rw [← hy,← hy2] at h2
   have : y.val = y'.val:=by split at h2 <;> split at h2 <;> omega
   have hy : y = y':=Fin.ext this
   subst hy
   rfl
theorem no_two (q : Q) (h : grp.op q q = grp.o) : q = grp.o:=by
 obtain ⟨_ | ⟨x,y⟩,hq⟩:=q
 ·
  rfl
 ·
  exfalso
  have h : E256.add (some (x,y)) (some (x,y)) = none:=congrArg Subtype.val h
  by_cases hy : y + y = 0
  ·
   exact y_ne good hq (dbl_zero good hy)
  ·
   have hn : ¬ (x = x ∧ y + y = 0):=fun e => hy e.2
   rw [zcc good hq hq hn (zbb good hq hq hn)] at h
   exact absurd h (by unfold third; simp)
theorem nn_all (q : Q) : grp.mul nn q = grp.o :=
 Ab.all_of nn_pr.2 (by decide +kernel) nn_base (by intro h; have h:=congrArg Subtype.val h; have h : some (F gx,F gy) = none:=h; exact absurd h (by simp)) code code_lt code_inj (by decide +kernel) no_two q
/-! How a walk meets these: numbers below the modulus,as values of the field's. -/

theorem pp_pr : Pr pp:=by
 obtain ⟨g,hg⟩:=pp_root
 exact root_pr hg (Nat.lt_trans (by decide) pp_big)
theorem v_add (x y : Fin pp) : (x.val + y.val) % pp = (x + y).val:=(Fin.val_add x y).symm
theorem v_mul (x y : Fin pp) : x.val * y.val % pp = (x * y).val:=(Fin.val_mul x y).symm
theorem v_sub (x y : Fin pp) : (x.val + pp - y.val) % pp = (x - y).val:=by
 have h:=y.isLt
 rw [Fin.sub_def]
 show _ = (pp - y.val + x.val) % pp
 congr 1
 omega
theorem v_gcd {x : Fin pp} (h : x ≠ 0) : Nat.gcd x.val pp = 1:=by
 rcases pp_pr.2 _ (Nat.gcd_dvd_right x.val pp) with h1 | h1
 ·
  exact h1
 ·
  exfalso
  have h2:=Nat.gcd_dvd_left x.val pp
  rw [h1] at h2
  have h0 : x.val ≠ 0:=fun e => h (Fin.ext (by rw [e,Fin.val_zero]))
  have h3:=Nat.le_of_dvd (Nat.pos_of_ne_zero h0) h2
  have:=x.isLt
  omega
theorem v_inv {x : Fin pp} {t : Nat} (ht : t < pp) (h : x.val * t % pp = 1) : t = (E256.inv x).val:=by
 have e1 : x * F t = 1:=by
  apply Fin.ext
  rw [Fin.val_mul]
  show x.val * (t % pp) % pp = 1
  rw [Nat.mod_eq_of_lt ht,h]
 have hx : x ≠ 0:=by
  rintro rfl
  rw [Fin.val_zero,Nat.zero_mul,Nat.zero_mod] at h
  exact absurd h (by decide)
 have e2:=good.hinv x hx
 have e3 : (F t : Fin pp) = E256.inv x:=by
  have : (F t : Fin pp) = x * F t * E256.inv x:=by
   rw [zdp x,zda,e2,zej]
  rw [this,e1,zdn]
 rw [← e3]
 exact (Nat.mod_eq_of_lt ht).symm
theorem ring_on {n : Nat} [NeZero n] (b x y : Fin n) : y * y = x * x * x - 3 * x + b ↔ y * y = x * x * x + - 3 * x + b:=by
 constructor
 ·
  intro h; rw [h]; clear h; grobner
 ·
  intro h; rw [h]; clear h; grobner
theorem on_iff (x y : Fin pp) : E256.on (some (x,y)) ↔ y * y = x * x * x - 3 * x + F bb:=by
 show y * y = x * x * x + F (pp - 3) * x + F bb ↔ _
 rw [F_p3]
 exact (ring_on _ _ _).symm
theorem ring_lam {n : Nat} [NeZero n] (x i : Fin n) : (3 * (x * x) + - 3) * i = 3 * (x * x - 1) * i:=by grobner
theorem lam_same (x y : Fin pp) : E256.lam x y x y = 3 * (x * x - 1) * E256.inv (y + y):=by
 unfold Cur.lam
 rw [if_pos ⟨rfl,rfl⟩]
 show (3 * (x * x) + F (pp - 3)) * _ = _
 rw [F_p3]
 exact ring_lam _ _
theorem lam_else {x1 y1 x2 y2 : Fin pp} (h : ¬ (x1 = x2 ∧ y1 = y2)) : E256.lam x1 y1 x2 y2 = (y2 - y1) * E256.inv (x2 - x1):=if_neg h
theorem ring_neg {n : Nat} [NeZero n] (y1 y2 : Fin n) : y1 = 0 - y2 ↔ y1 + y2 = 0:=by
 constructor
 ·
  intro h; subst h; grobner
 ·
  intro h; grobner
theorem add_far {x1 y1 x2 y2 : Fin pp} (h : x1 = x2 ∧ y1 = 0 - y2) : E256.add (some (x1,y1)) (some (x2,y2)) = none:=zbx E256 ⟨h.1,(ring_neg _ _).mp h.2⟩
theorem add_near {x1 y1 x2 y2 : Fin pp} (h : ¬ (x1 = x2 ∧ y1 = 0 - y2)) : E256.add (some (x1,y1)) (some (x2,y2)) = third x1 y1 x2 (E256.lam x1 y1 x2 y2) :=
 if_neg (fun e => h ⟨e.1,(ring_neg _ _).mpr e.2⟩)
theorem down_same {x y : Fin pp} (h : E256.on (some (x,y))) : y + y ≠ 0:=fun e => y_ne good h (dbl_zero good e)
theorem mul_top (k i : Nat) (q : Q) : grp.mul (k / 2 ^ i) q = (if k / 2 ^ i % 2 = 1 then grp.op (grp.op (grp.mul (k / 2 ^ (i + 1)) q) (grp.mul (k / 2 ^ (i + 1)) q)) q else grp.op (grp.mul (k / 2 ^ (i + 1)) q) (grp.mul (k / 2 ^ (i + 1)) q)):=by
 have e : k / 2 ^ (i + 1) = k / 2 ^ i / 2:=by rw [Nat.pow_succ,Nat.div_div_eq_div_mul]
 rw [e]
 generalize k / 2 ^ i = m
 rw [← grp.mul_add]
 by_cases h : m % 2 = 1
 ·
  rw [if_pos h,← grp.mul_succ]
  congr 1
  omega
 ·
  rw [if_neg h]
  congr 1
  omega
def pX : P pp → Nat
 | none => 0
 | some (x,_) => x.val
def pY : P pp → Nat
 | none => 0
 | some (_,y) => y.val
def pFar : P pp → Bool
 | none => true
 | some _ => false
theorem pX_lt (p : P pp) : pX p < pp:=by
 rcases p with _ | ⟨x,y⟩
 ·
  exact Nat.lt_trans (by decide) pp_big
 ·
  exact x.isLt
theorem pY_lt (p : P pp) : pY p < pp:=by
 rcases p with _ | ⟨x,y⟩
 ·
  exact Nat.lt_trans (by decide) pp_big
 ·
  exact y.isLt
theorem p_inj {p q : P pp} (h1 : pX p = pX q) (h2 : pY p = pY q) (h3 : pFar p = pFar q) : p = q:=by
 rcases p with _ | ⟨x,y⟩ <;> rcases q with _ | ⟨x',y'⟩
 ·
  rfl
 ·
  exact absurd h3 (by simp [pFar])
 ·
  exact absurd h3 (by simp [pFar])
 ·
  rw [show x = x' from Fin.ext h1,show y = y' from Fin.ext h2]
def isOn (X Y : Nat) (far : Bool) : Prop:=if far = true then X = 0 ∧ Y = 0 else X < pp ∧ Y < pp ∧ E256.on (some (F X,F Y))
theorem isOn_iff (X Y : Nat) (far : Bool) : isOn X Y far ↔ ∃ q : Q,X = pX q.1 ∧ Y = pY q.1 ∧ far = pFar q.1:=by
 unfold isOn
 by_cases h : far = true
 ·
  rw [if_pos h]
  subst h
  constructor
  ·
   rintro ⟨rfl,rfl⟩
   exact ⟨grp.o,rfl,rfl,rfl⟩
  ·
   rintro ⟨⟨_ | ⟨x,y⟩,hq⟩,h1,h2,h3⟩
   ·
    exact ⟨h1,h2⟩
   ·
    exact absurd h3 (by simp [pFar])
 ·
  rw [if_neg h]
  have h : far = false:=by simpa using h
  subst h
  constructor
  ·
   rintro ⟨hx,hy,ho⟩
   exact ⟨⟨_,ho⟩,(Nat.mod_eq_of_lt hx).symm,(Nat.mod_eq_of_lt hy).symm,rfl⟩
  ·
   rintro ⟨⟨_ | ⟨x,y⟩,hq⟩,h1,h2,h3⟩
   ·
    exact absurd h3 (by simp [pFar])
   ·
    have h1 : X = x.val:=h1
    have h2 : Y = y.val:=h2
    subst h1
    subst h2
    rw [F_val,F_val]
    exact ⟨x.isLt,y.isLt,hq⟩
end Go.Proofs.YtihophdbkjhopaaDoor.Pt
namespace Go.Proofs.YtihophdbkjhopaaDoor
open Go.RowKit
open Go.Value renaming int → vI
open Go.IntKind renaming u64 → vU
open Go.Act renaming put → aP
open List renaming setIfInBounds_toArray → lA, set_cons_zero → lZ, set_cons_succ → lS
theorem zfh : Pt.pp < top:=by decide +kernel
/-! ### points: values,rows,'==' -/
def pc (X Y : Nat) (f : Bool) (j : Nat) : Value:=if j < 4 then .int .u64 (wd X j) else if j < 8 then .int .u64 (wd Y (j - 4)) else .bool f
theorem cells_num : Tryd.prog.cellsOf 25 = 4:=by kernel_rfl
theorem cells_pt : Tryd.prog.cellsOf 27 = 9:=by kernel_rfl
theorem cells_bool : Tryd.prog.cellsOf 4 = 1:=by kernel_rfl
end Go.Proofs.YtihophdbkjhopaaDoor
namespace Go.Proofs.YtihophdbkjhopaaDoor
open Go.RowKit
open Go.Value renaming int → vI
open Go.IntKind renaming u64 → vU
open Go.Act renaming put → aP
open List renaming setIfInBounds_toArray → lA, set_cons_zero → lZ, set_cons_succ → lS
theorem gT (X Y X' Y' : Nat) (f f' : Bool) (op : BinOp) (x y : Operand) (W : World) : (eqGuard op 27 x y (qv X Y f) (qv X' Y' f')).run Tryd.prog W = .ok () W:=by
 unfold qv qc
 cases op <;> simp [eqGuard,go_sem]
end Go.Proofs.YtihophdbkjhopaaDoor
namespace Go.Proofs.YtihophdbkjhopaaDoor
open Go.RowKit
open Go.Value renaming int → vI
open Go.IntKind renaming u64 → vU
open Go.Act renaming put → aP
open List renaming setIfInBounds_toArray → lA, set_cons_zero → lZ, set_cons_succ → lS
def gc (r s : Nat) : Array Value:=#[vI vU (wd r 0),vI vU (wd r 1),vI vU (wd r 2),vI vU (wd r 3),vI vU (wd s 0),vI vU (wd s 1),vI vU (wd s 2),vI vU (wd s 3)]
def gv (r s : Nat) : Value:=.agg (gc r s)
theorem gc_one (r s : Nat) : (gc r s).all (·.oneCell') = true:=by simp [gc,Value.oneCell']
theorem iSg (r s : Nat) : (Tryd.prog.info? 37).map (·.size) = some (gc r s).size:=by kernel_rfl
def dgc (y : Nat → Nat) : Array Value:=arrOf 32 fun i => .int .u8 (y i : Nat)
def dgv (y : Nat → Nat) : Value:=.agg (dgc y)
theorem infoD32 : (Tryd.prog.info? 33).map (·.size) = some 32:=by kernel_rfl
theorem iDg (y : Nat → Nat) : (Tryd.prog.info? 33).map (·.size) = some (dgc y).size:=by
 unfold dgc
 rw [zah]; exact infoD32
section
variable (g : Nat) (W : World)
theorem sliceD : (Instr.sliceAt 33 (ptrTo g) none none none).run Tryd.prog W = .ok (.slice (some ⟨g,0,none⟩) 32 32) W:=by kernel_rfl
end
end Go.Proofs.YtihophdbkjhopaaDoor
namespace Go.Proofs.YtihophdbkjhopaaDoor
open Go.RowKit
open Go.Value renaming int → vI
open Go.IntKind renaming u64 → vU
open Go.Act renaming put → aP
open List renaming setIfInBounds_toArray → lA, set_cons_zero → lZ, set_cons_succ → lS
structure Low where
 dg : List Nat → Nat → Nat
 dgb : ∀ bs j,dg bs j < 256
 vf : Nat → Nat → Bool → (Nat → Nat) → Nat → Nat → Bool
end Go.Proofs.YtihophdbkjhopaaDoor
namespace Go.Proofs.YtihophdbkjhopaaDoor
open Go.RowKit
open Go.Value renaming int → vI
open Go.IntKind renaming u64 → vU
open Go.Act renaming put → aP
open List renaming setIfInBounds_toArray → lA, set_cons_zero → lZ, set_cons_succ → lS
def Z8 : Array Value:=#[vI vU 0,vI vU 0,vI vU 0,vI vU 0,vI vU 0,vI vU 0,vI vU 0,vI vU 0]
theorem z8_gc : Z8 = gc 0 0:=by
 obtain ⟨h0,h1,h2,h3⟩:=wd_z
 unfold gc Z8
 rw [h0,h1,h2,h3]
theorem iZ8 : (Tryd.prog.info? 37).map (·.size) = some Z8.size:=by kernel_rfl
theorem z8_one : Z8.all (·.oneCell') = true:=by simp [Z8,Value.oneCell']
theorem run_load_v {P : Program} {o : Oper} {a : Act} {ty : TypeId} {x : Operand} {g t : Nat} {cs : Array Value} {fr : Nat × Nat} {d : TypeDesc} {W : World} (ho : o.op = .load ty x) (hx : a.eval x = .pointer (some ⟨g,0,none⟩)) (hb : W.heap[g]? = some (.cells cs t fr))
  (hu : P.underlying ty = some d) (hd : d.isRow = true) (hi : (P.info? ty).map (·.size) = some cs.size) : (execOp a.eval o).run P W = .ok (.value (.agg cs)) W:=by
 have hl : (loadVar ty ⟨g,0,none⟩).run P W = .ok (.agg cs) W:=run_loadVar_mid W g 0 ty cs.toList d (fun j v hv => by rw [cell_of_row W g (0 + j) cs t fr hb,Nat.zero_add]; simpa using hv) hu hd (by simpa using hi)
 unfold execOp
 simp only [ho,hx,Instr.loadAt,Instr.sureAddr,Sem.run_bind,Sem.run_pure,Result.andThen_ok,hl]
theorem run_build_v {P : Program} {o : Oper} {a : Act} {ty : TypeId} {parts : List (Nat × Operand)} {vs : List (Nat × Value)} {v : Value} {W : World} (ho : o.op = .build ty parts.toArray) (hx : parts.map (fun p => (p.1,a.eval p.2)) = vs)
  (hb : (Instr.build ty vs.toArray).run P W = .ok v W) : (execOp a.eval o).run P W = .ok (.value v) W:=by
 unfold execOp
 simp only [ho,List.map_toArray]
 rw [show (parts.map fun x => match x with | (i,x) => (i,a.eval x)) = vs from hx]
 simp only [Sem.run_bind,hb,Result.andThen_ok,Sem.run_pure]
theorem Up.block {w : World} {D : World → Prop} (h : Up w D) {g : Nat} {o : Obj} (hb : w.heap[g]? = some o) (x : Gw D) : x.val.heap[g]? = some o:=(h.grown _ x.property).block hb
end Go.Proofs.YtihophdbkjhopaaDoor
namespace Go.Proofs.YtihophdbkjhopaaDoor
open Go.RowKit
open Go.Value renaming int → vI
open Go.IntKind renaming u64 → vU
open Go.Act renaming put → aP
open List renaming setIfInBounds_toArray → lA, set_cons_zero → lZ, set_cons_succ → lS
theorem zar {W : World} {g g' t : Nat} {cs : Array Value} (T : Array Value) (h : W.heap[g']? = some (.cells cs t (0,0))) (hg : g < g') : (W.setRow g T).heap[g']? = some (.cells cs t (0,0)):=(zaj W T (by omega)).trans h
theorem two_rows {w W : World} {g g' t t' : Nat} {T G T0 G0 : Array Value} (hE : Ext w W) (h : W.heap[g]? = some (.cells T0 t (0,0))) (h' : W.heap[g']? = some (.cells G0 t' (0,0))) (hg : w.heap.size ≤ g ∧ g < g') :
  Ext w ((W.setRow g T).setRow g' G) ∧ ((W.setRow g T).setRow g' G).heap[g]? = some (.cells T t (0,0)) ∧ ((W.setRow g T).setRow g' G).heap[g']? = some (.cells G t' (0,0)) :=
 ⟨zas (zas hE hg.1 T) (by omega) G,(zaj _ G (by omega)).trans (setRow_heap W g T0 T t (0,0) h),setRow_heap _ g' G0 G t' (0,0) (zar T h' hg.2)⟩
/-! ### a region that draws its order,order by order -/
section
variable {P : Program} {ops : Array Oper} {Q : Exit → Act → World → Prop} {f j d : Nat} {listed : Array Bool} {a : Act} {w : World}
end
end Go.Proofs.YtihophdbkjhopaaDoor
namespace Go.Proofs.YtihophdbkjhopaaDoor
open Go.RowKit
open Go.Value renaming int → vI
open Go.IntKind renaming u64 → vU
open Go.Act renaming put → aP
open List renaming setIfInBounds_toArray → lA, set_cons_zero → lZ, set_cons_succ → lS
theorem eqNilNil (w : World) : (binOp .eql 39 .nilIface .nilIface).run Tryd.prog w = .ok (.bool true) w:=by kernel_rfl
end Go.Proofs.YtihophdbkjhopaaDoor
namespace Go.Proofs.YtihophdbkjhopaaDoor
open Go.RowKit
open Go.Value renaming int → vI
open Go.IntKind renaming u64 → vU
open Go.Act renaming put → aP
open List renaming setIfInBounds_toArray → lA, set_cons_zero → lZ, set_cons_succ → lS
theorem zbt {P : Program} {fn : Func} {q s : Tmp} {ty : TypeId} (h : fn.results = #[.cell q ty,.tmp s]) (tmps : Array Value) (w : World) (g : Nat) (t : TypeId) (cs : Array Value) (fr : Nat × Nat) (d : TypeDesc)
  (hq : tmps.getD q undef = .pointer (some ⟨g,0,none⟩)) (hg : w.heap[g]? = some (.cells cs t fr)) (hu : P.underlying ty = some d) (hd : d.isRow = true) (hi : (P.info? ty).map (·.size) = some cs.size) :
  (results fn tmps).run P w = .ok (.tuple #[.agg cs,tmps.getD s undef]) w:=by
 have hq' : tmps[q]?.getD undef = .pointer (some ⟨g,0,none⟩):=by simpa using hq
 have hl : (loadVar ty ⟨g,0,none⟩).run P w = .ok (.agg cs) w:=run_loadVar_mid w g 0 ty cs.toList d (fun j v hv => by rw [cell_of_row w g (0 + j) cs t fr hg,Nat.zero_add]; simpa using hv) hu hd (by simpa using hi)
 simp [results,h,hq',asAddr,hl]
theorem two_new (w1 : World) (o o2 : Obj) : ((w1.alloc o).alloc o2).heap[w1.heap.size]? = some o ∧ ((w1.alloc o).alloc o2).heap[w1.heap.size + 1]? = some o2:=by
 have h:=zae (w1.alloc o) o2
 rw [World.size_alloc] at h
 exact ⟨(Ext.alloc (w1.alloc o) o2).block (zae w1 o),h⟩
theorem two_ext (w1 : World) (o o2 : Obj) : Ext w1 ((w1.alloc o).alloc o2):=(Ext.alloc _ _).trans (Ext.alloc _ _)
end Go.Proofs.YtihophdbkjhopaaDoor
namespace Go.Proofs.YtihophdbkjhopaaDoor
open Go.RowKit
open Go.Value renaming int → vI
open Go.IntKind renaming u64 → vU
open Go.Act renaming put → aP
open List renaming setIfInBounds_toArray → lA, set_cons_zero → lZ, set_cons_succ → lS
structure Chg (F : Nat → Prop) (w w' : World) : Prop where
 os : w'.os = w.os
 tape : w'.tape = w.tape
 output : w'.output = w.output
 size : w.heap.size ≤ w'.heap.size
 block : ∀ k,k < w.heap.size → ¬ F k → w'.heap[k]? = w.heap[k]?
section
variable {F G : Nat → Prop} {a b c w w' : World}
theorem Chg.refl (F : Nat → Prop) (w : World) : Chg F w w:=⟨rfl,rfl,rfl,Nat.le_refl _,fun _ _ _ => rfl⟩
theorem Chg.trans (h : Chg F a b) (k : Chg G b c) (hg : ∀ z,z < a.heap.size → G z → F z) : Chg F a c :=
 ⟨k.os.trans h.os,k.tape.trans h.tape,k.output.trans h.output,Nat.le_trans h.size k.size,fun z hz hn => (k.block z (Nat.lt_of_lt_of_le hz h.size) fun hG => hn (hg z hz hG)).trans (h.block z hz hn)⟩
theorem Chg.of_ext (h : Ext w w') : Chg F w w':=⟨Below.os h,Below.tape h,Below.output h,Below.size h,fun k hk _ => Below.block h k hk⟩
theorem Chg.ext (h : Chg F a b) (k : Ext b c) : Chg F a c:=h.trans (Chg.of_ext (F:=F) k) fun _ _ h => h
theorem Chg.mono (h : Chg F w w') (k : ∀ z,z < w.heap.size → F z → G z) : Chg G w w':=⟨h.os,h.tape,h.output,h.size,fun z hz hn => h.block z hz fun hf => hn (k z hz hf)⟩
theorem Chg.new (h : Chg F b c) (k : Ext a b) (hf : ∀ z,z < a.heap.size → ¬ F z) : Ext a c :=
 ⟨h.os.trans (Below.os k),h.tape.trans (Below.tape k),h.output.trans (Below.output k),Nat.le_trans (Below.size k) h.size,fun z hz => (h.block z (Nat.lt_of_lt_of_le hz (Below.size k)) (hf z hz)).trans (Below.block k z hz)⟩
theorem Chg.at (h : Chg F w w') {z : Nat} {o : Obj} (hz : w.heap[z]? = some o) (hf : ¬ F z) : w'.heap[z]? = some o:=by rw [h.block z (Array.getElem?_eq_some_iff.1 hz).1 hf]; exact hz
theorem Chg.cell (h : Chg F w w') {p : Addr} (hz : p.block < w.heap.size) (hf : ¬ F p.block) : w'.cell? p = w.cell? p:=World.cell?_of_block (w:=w) (h.block p.block hz hf)
theorem Chg.setCell (h : Chg F w w') {p : Addr} (hp : F p.block ∨ w.heap.size ≤ p.block) (u : Value) : Chg F w (w'.setCell p u) :=
 ⟨h.os,h.tape,h.output,by simpa [World.setCell] using h.size,fun k hk hn => (Below.heap_setCell _ _ _ _ fun e => by
  subst e
  rcases hp with hp | hp
  ·
   exact hn hp
  ·
   omega).trans (h.block k hk hn)⟩
theorem Chg.drew (h : Chg F w w') : Chg F w w'.drew:=⟨h.os,h.tape,h.output,h.size,h.block⟩
end
section
variable {α : Type} {sz : Nat} {cs : α → List Value} {v : Value} {l : List α} {w w' : World} {F : Nat → Prop} {base ty : Nat}
theorem OwnL.chg (o : OwnL sz cs w base ty v l) (h : Chg F w w') (hf : ∀ k,v.ownBlock = some k → ¬ F k) : OwnL sz cs w' base ty v l :=
 ⟨o.1,o.2.imp id fun ⟨g,cap,cur,e,hg,hh,r⟩ => ⟨g,cap,cur,e,hg,h.at hh (hf g (by rw [e]; rfl)),r⟩⟩
end
end Go.Proofs.YtihophdbkjhopaaDoor
namespace Go.Proofs.YtihophdbkjhopaaDoor
open Go.RowKit
open Go.Value renaming int → vI
open Go.IntKind renaming u64 → vU
open Go.Act renaming put → aP
open List renaming setIfInBounds_toArray → lA, set_cons_zero → lZ, set_cons_succ → lS
def lowSt (ops : Array Oper) : Bool:=(List.range ops.size).all fun i => match ops[i]? with
 | some o => o.after.toList.all fun e => !Region.binds .any e || decide (e.on < i)
 | none => true
def tmpsB (o : Oper) : List Tmp:=o.op.operands.toList.filterMap fun | .tmp t => some t | _ => none
def knowB (ops : Array Oper) : Bool:=(List.range ops.size).all fun i => match ops[i]? with
 | some o => o.guard.isNone && (tmpsB o).all fun t => (List.range ops.size).all fun j => match ops[j]? with
  | some oj => !(oj.dst == some t) || o.after.toList.any fun e => decide (e.on = j) && Region.binds .any e
  | none => true
 | none => true
def dstB (size : Nat) : List Oper → Bool
 | [] => true
 | o :: r => (match o.dst with | some d => decide (d < size) && !(dstsB r).contains d | none => true) && dstB size r
theorem zds (a : Act) (d : Tmp) (v : Value) (t : Nat) : (a.put (some d) v).tmps[t]? = if t = d ∧ d < a.tmps.size then some v else a.tmps[t]?:=by
 rw [zeh,Array.getElem?_setIfInBounds]
 by_cases h : d = t
 ·
  subst h
  by_cases h2 : d < a.tmps.size
  ·
   rw [if_pos rfl,if_pos h2,if_pos ⟨rfl,h2⟩]
  ·
   rw [if_pos rfl,if_neg h2,if_neg fun h => h2 h.2]
   exact (Array.getElem?_eq_none (Nat.le_of_not_lt h2)).symm
 ·
  rw [if_neg h,if_neg fun e => h e.1.symm]
theorem zdm (a : Act) (d : Option Tmp) (v : Value) : (a.put d v).tmps.size = a.tmps.size:=by
 cases d with
 | none => rfl
 | some d => rw [zeh]; simp
theorem put_defers (a : Act) (d : Option Tmp) (v : Value) : (a.put d v).defers = a.defers:=by cases d <;> rfl
section
variable {P : Program} {Q : Exit → Act → World → Prop}
theorem all_listed {ops : Array Oper} (hB : lowSt ops = true) {listed : Array Bool} (hsz : listed.size = ops.size) (hr : Region.ready .any ops listed = []) : ∀ i,i < ops.size → listed.getD i false = true:=by
 intro i
 induction i using Nat.strongRecOn with
 | _ i ih =>
  intro hi
  cases hl : listed.getD i false with
  | true => rfl
  | false =>
   exfalso
   have ho:=Array.getElem?_eq_getElem hi
   have hlow:=List.all_eq_true.1 hB i (List.mem_range.2 hi)
   rw [ho] at hlow
   have h2 : i ∈ Region.ready .any ops listed:=mem_ready.2 ⟨by
    have h3 : i < listed.size:=by omega
    have e : listed.getD i true = listed.getD i false:=by simp [Array.getD,h3]
    rw [e,hl],_,ho,fun e he hb => by
     have h3:=List.all_eq_true.1 hlow e (Array.mem_toList_iff.2 he)
     rw [hb,Bool.not_true,Bool.false_or] at h3
     have h4:=of_decide_eq_true h3
     exact ih e.on h4 (by omega)⟩
   rw [hr] at h2
   cases h2
theorem Chg.setRow {F : Nat → Prop} {w w' : World} (h : Chg F w w') {k : Nat} (hk : F k) (c : Array Value) : Chg F w (w'.setRow k c) :=
 ⟨h.os,h.tape,h.output,by simpa [World.setRow] using h.size,fun z hz hn => (zaj w' c (show z ≠ k from fun e => hn (by rw [e]; exact hk))).trans (h.block z hz hn)⟩
def ASt (l : List Oper) (A : Act) (listed : Array Bool) (a : Act) : Prop :=
 a.defers = A.defers ∧ a.tmps.size = A.tmps.size ∧ ∀ t,(∀ j o,l[j]? = some o → o.dst = some t → listed.getD j false = true) → a.tmps[t]? = A.tmps[t]?
theorem ASt.eval {l : List Oper} {A a : Act} {listed : Array Bool} (h : ASt l A listed a) (hK : knowB l.toArray = true) {i : Nat} {o : Oper} (hi : l[i]? = some o) (hr : i ∈ Region.ready .any l.toArray listed) : ∀ x ∈ o.op.operands,a.eval x = A.eval x:=by
 intro x hx
 cases x with
 | tmp t =>
  have h1:=List.all_eq_true.1 hK i (List.mem_range.2 (by simpa using (List.getElem?_eq_some_iff.1 hi).1))
  have hi' : l.toArray[i]? = some o:=by simpa using hi
  rw [hi'] at h1
  simp only [Bool.and_eq_true] at h1
  have ht : t ∈ tmpsB o:=by
   unfold tmpsB
   rw [List.mem_filterMap]
   exact ⟨.tmp t,Array.mem_toList_iff.2 hx,rfl⟩
  have h2:=List.all_eq_true.1 h1.2 t ht
  have h3:=h.2.2 t fun j oj hj hd => by
   have h4:=List.all_eq_true.1 h2 j (List.mem_range.2 (by simpa using (List.getElem?_eq_some_iff.1 hj).1))
   have hj' : l.toArray[j]? = some oj:=by simpa using hj
   rw [hj'] at h4
   simp only [hd,BEq.rfl,Bool.not_true,Bool.false_or] at h4
   obtain ⟨e,he,h5⟩:=List.any_eq_true.1 h4
   simp only [Bool.and_eq_true,decide_eq_true_eq] at h5
   obtain ⟨_,o',ho',hall⟩:=mem_ready.1 hr
   obtain rfl : o = o':=Option.some.inj (hi'.symm.trans ho')
   have h6:=hall e (Array.mem_toList_iff.1 he) h5.2
   rwa [h5.1] at h6
  show a.tmps.getD t undef = A.tmps.getD t undef
  rw [Array.getD_eq_getD_getElem?,Array.getD_eq_getD_getElem?,h3]
 | _ => rfl
theorem ASt.put {l : List Oper} {A a : Act} {listed : Array Bool} (h : ASt l A listed a) {i : Nat} {o : Oper} {v : Value} (hi : l[i]? = some o) (hv : ∀ d,o.dst = some d → A.tmps[d]? = some v) : ASt l A (listed.setIfInBounds i true) (a.put o.dst v):=by
 refine ⟨by rw [put_defers]; exact h.1,by rw [zdm]; exact h.2.1,fun t ht => ?_⟩
 have old : (∀ d,o.dst = some d → d ≠ t) → a.tmps[t]? = A.tmps[t]?:=fun hne => h.2.2 t fun j oj hj hd => by
  have h1:=ht j oj hj hd
  by_cases e : i = j
  ·
   subst e
   obtain rfl : o = oj:=Option.some.inj (hi.symm.trans hj)
   exact absurd rfl (hne t hd)
  ·
   rwa [getD_set_ne false e] at h1
 cases ho : o.dst with
 | none =>
  show a.tmps[t]? = _
  exact old fun d hd => by rw [ho] at hd; cases hd
 | some d =>
  rw [zds]
  by_cases e : t = d
  ·
   have h2:=hv d ho
   have h3 : d < a.tmps.size:=by rw [h.2.1]; exact (Array.getElem?_eq_some_iff.1 h2).1
   rw [if_pos ⟨e,h3⟩,e,h2]
  ·
   rw [if_neg fun h => e h.1]
   exact old fun d' hd' => by
    rw [ho] at hd'
    injection hd' with hd'
    subst hd'
    exact fun h => e h.symm
def unl (listed : Array Bool) : Nat → Nat
 | 0 => 0
 | n + 1 => unl listed n + if listed.getD n false = true then 0 else 1
theorem unl_far {listed : Array Bool} {i : Nat} : ∀ {n : Nat},n ≤ i → unl (listed.setIfInBounds i true) n = unl listed n
 | 0,_ => rfl
 | n + 1,h => by
  show unl _ n + _ = unl _ n + _
  rw [unl_far (n:=n) (by omega),getD_set_ne false (show i ≠ n by omega)]
theorem unl_set {listed : Array Bool} {i : Nat} (hl : listed.getD i false = false) (hsz : i < listed.size) : ∀ {n : Nat},i < n → unl (listed.setIfInBounds i true) n + 1 = unl listed n
 | 0,h => by omega
 | n + 1,h => by
  show unl _ n + _ + 1 = unl _ n + _
  by_cases e : i = n
  ·
   subst e
   have : (listed.setIfInBounds i true).getD i false = true:=by simp [Array.getD,hsz]
   rw [unl_far (Nat.le_refl _),this,hl]
   simp
  ·
   rw [getD_set_ne false e]
   have:=unl_set hl hsz (n:=n) (by omega)
   omega
theorem unl_zero {listed : Array Bool} : ∀ {n : Nat},unl listed n = 0 → ∀ i,i < n → listed.getD i false = true
 | 0,_,i,hi => by omega
 | n + 1,h,i,hi => by
  have h1 : unl listed n + (if listed.getD n false = true then 0 else 1) = 0:=h
  by_cases e : i = n
  ·
   subst e
   cases hl : listed.getD i false with
   | true => rfl
   | false => rw [hl] at h1; simp at h1
  ·
   exact unl_zero (n:=n) (by omega) i (by omega)
theorem unl_new (m : Nat) : ∀ n,unl (Array.replicate m false) n = n
 | 0 => rfl
 | n + 1 => by
  show unl _ n + _ = _
  rw [unl_new m n,getD_replicate_false]
  rfl
end
end Go.Proofs.YtihophdbkjhopaaDoor
