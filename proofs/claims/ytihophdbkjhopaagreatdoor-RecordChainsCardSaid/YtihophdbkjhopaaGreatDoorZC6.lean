/-
  Of Pt Q1 Ce Gv K5 K6 K7 K8 K9 Chg.
-/
import Derived.WalkKit
import Derived.Deep.WholeRow
import Derived.DeepKeys
import Derived.Test.YtihophdbkjhopaaGreatDoorZC3
import Derived.Test.YtihophdbkjhopaaGreatDoorZC5
import Derived.Test.YtihophdbkjhopaaGreatDoorZC4
import Derived.Test.YtihophdbkjhopaaGreatDoorZC2
set_option maxRecDepth 1000000
set_option maxHeartbeats 20000000
namespace Go.Proofs.YtihophdbkjhopaaGreatDoor.Pt
section law
variable {n : Nat} [NeZero n]
def Slope (a x1 y1 x2 y2 l : Fin n) : Prop:=l * (x2 - x1) = y2 - y1 ∧ l * (y1 + y2) = x1 * x1 + x1 * x2 + x2 * x2 + a
def OnC (a b x y : Fin n) : Prop:=y * y = x * x * x + a * x + b
def NoZ (n : Nat) [NeZero n] : Prop:=∀ x y : Fin n,x * y = 0 → x = 0 ∨ y = 0
theorem mv1 {x1 y1 x2 y2 l : Fin n} (h : l * (x2 - x1) = y2 - y1) : y1 = y2 - l * (x2 - x1):=by grobner
theorem mv2 {x1 y1 x2 y2 l : Fin n} (h : l * (x2 - x1) = y2 - y1) : y2 = y1 + l * (x2 - x1):=by grobner
theorem zfx {a x1 y1 x2 y2 l : Fin n} (h : Slope a x1 y1 x2 y2 l) : Slope a x2 y2 x1 y1 l:=by
 obtain ⟨h1,h2⟩:=h
 refine ⟨?_,?_⟩ <;> grobner
theorem slope_uniq {a x1 y1 x2 y2 l m : Fin n} (hz : NoZ n) (hn : ¬ (x1 = x2 ∧ y1 + y2 = 0)) (h : Slope a x1 y1 x2 y2 l) (h' : Slope a x1 y1 x2 y2 m) : l = m:=by
 obtain ⟨h1,h2⟩:=h
 obtain ⟨g1,g2⟩:=h'
 have e1 : (l - m) * (x2 - x1) = 0:=by grobner
 have e2 : (l - m) * (y1 + y2) = 0:=by grobner
 rcases hz _ _ e1 with h | h
 ·
  grobner
 ·
  rcases hz _ _ e2 with h' | h'
  ·
   grobner
  ·
   exact absurd ⟨by grobner,h'⟩ hn
theorem on_third {a b x1 y1 x2 y2 l : Fin n} (h : OnC a b x1 y1) (hs : Slope a x1 y1 x2 y2 l) : OnC a b (l * l - x1 - x2) (l * (x1 - (l * l - x1 - x2)) - y1):=by
 obtain ⟨h1,h2⟩:=hs
 have ha : a = 2 * l * y1 + l * l * (x2 - x1) - x1 * x1 - x1 * x2 - x2 * x2:=by grobner
 have hb : b = y1 * y1 - x1 * x1 * x1 - a * x1:=by unfold OnC at h; grobner
 unfold OnC
 subst hb
 subst ha
 grobner
theorem tan0 {x3 xd y3 yd s : Fin n} (h : s * (x3 - xd) = y3 - yd) (hx : xd = x3) : yd = y3:=by subst hx; grobner
theorem tan1 {x1 x2 x3 y2 l m : Fin n} (hR : 2 * (l - m) * y2 = (x1 - x2) * (x1 + x2 + x3 - l * l) - (x3 - x2) * (x1 + x2 + x3 - m * m)) (h : l * l - x1 - x2 = x3) : (l - m) * (2 * y2 + (x3 - x2) * (l + m)) = 0:=by subst h; grobner
theorem tan2 {x2 x3 y2 y3 l m : Fin n} (h : 2 * y2 + (x3 - x2) * (l + m) = 0) (hy : y3 = y2 + m * (x3 - x2)) : y3 + y3 = (x3 - x2) * (m - l):=by subst hy; grobner
theorem tan3 {a x1 x2 x3 y2 y3 l m s : Fin n} (h : 2 * y2 + (x3 - x2) * (l + m) = 0) (hy : y3 = y2 + m * (x3 - x2)) (h4 : y3 + y3 = (x3 - x2) * (m - l)) (hx : l * l - x1 - x2 = x3)
  (m2 : m * (y2 + y3) = x2 * x2 + x2 * x3 + x3 * x3 + a) (s2 : s * (y3 + y3) = x3 * x3 + x3 * x3 + x3 * x3 + a) : (x3 - x2) * ((l - m) * (s + l) - (x1 - x3)) = 0:=by
 have e1 : y2 + y3 = - ((x3 - x2) * l):=by clear m2 s2 hx; subst hy; grobner
 rw [e1] at m2
 rw [h4] at s2
 clear h h4 hy e1
 have e2 : x1 = l * l - x2 - x3:=by grobner
 subst e2
 grobner
theorem sec1 {x1 x2 x3 y2 y3 l m s xd yd : Fin n} (h : s * (x3 - xd) = y3 - yd) (hy : y3 = y2 + m * (x3 - x2)) (hd : yd = l * (x1 - xd) - (y2 - l * (x2 - x1))) : (s + l) * (x3 - xd) = 2 * y2 + (l + m) * (x3 - x2):=by
 subst hy
 subst hd
 grobner
theorem sec2 {x1 x2 x3 y2 l m s : Fin n} (hR : 2 * (l - m) * y2 = (x1 - x2) * (x1 + x2 + x3 - l * l) - (x3 - x2) * (x1 + x2 + x3 - m * m)) (h : (s + l) * (x3 - (l * l - x1 - x2)) = 2 * y2 + (l + m) * (x3 - x2)) :
  (x3 - (l * l - x1 - x2)) * ((l - m) * (s + l) - (x1 - x3)) = 0:=by grobner
theorem keyR {a x1 y1 x2 y2 x3 y3 l m : Fin n} (hl : Slope a x1 y1 x2 y2 l) (hm : Slope a x2 y2 x3 y3 m) : 2 * (l - m) * y2 = (x1 - x2) * (x1 + x2 + x3 - l * l) - (x3 - x2) * (x1 + x2 + x3 - m * m):=by
 obtain ⟨l1,l2⟩:=hl
 obtain ⟨m1,m2⟩:=hm
 have hy1:=mv1 l1
 have hy3:=mv2 m1
 subst hy1
 subst hy3
 clear l1 m1
 grobner
theorem eq_of_sub {x y : Fin n} (h : x - y = 0) : x = y:=by grobner
theorem key {a x1 y1 x2 y2 x3 y3 l m s : Fin n} (hz : NoZ n) (hlm : l ≠ m) (hl : Slope a x1 y1 x2 y2 l) (hm : Slope a x2 y2 x3 y3 m)
  (hs : Slope a (l * l - x1 - x2) (l * (x1 - (l * l - x1 - x2)) - y1) x3 y3 s) (hn : ¬ (l * l - x1 - x2 = x3 ∧ l * (x1 - (l * l - x1 - x2)) - y1 + y3 = 0)) : (l - m) * (s + l) = x1 - x3:=by
 have hR:=keyR hl hm
 obtain ⟨l1,l2⟩:=hl
 obtain ⟨m1,m2⟩:=hm
 obtain ⟨s1,s2⟩:=hs
 have hy1:=mv1 l1
 have hy3:=mv2 m1
 by_cases hP : l * l - x1 - x2 = x3
 ·
  have hyy:=tan0 s1 hP
  have h3 : 2 * y2 + (x3 - x2) * (l + m) = 0:=by
   rcases hz _ _ (tan1 hR hP) with h | h
   ·
    exact absurd (eq_of_sub h) hlm
   ·
    exact h
  have h4:=tan2 h3 hy3
  rw [hyy,hP] at s2
  rcases hz _ _ (tan3 h3 hy3 h4 hP m2 s2) with h | h
  ·
   refine absurd ⟨hP,?_⟩ hn
   rw [hyy,h4,h]
   grobner
  ·
   exact eq_of_sub h
 ·
  rw [hy1] at s1
  rcases hz _ _ (sec2 hR (sec1 s1 hy3 rfl)) with h | h
  ·
   exact absurd (eq_of_sub h).symm hP
  ·
   exact eq_of_sub h
structure Cur (n : Nat) [NeZero n] where
 a : Fin n
 b : Fin n
 inv : Fin n → Fin n
structure Good (E : Cur n) : Prop where
 hz : NoZ n
 nt : ∀ x : Fin n,x * x * x + E.a * x + E.b ≠ 0
 two : (2 : Fin n) ≠ 0
 hinv : ∀ x : Fin n,x ≠ 0 → x * E.inv x = 1
def Cur.lam (E : Cur n) (x1 y1 x2 y2 : Fin n) : Fin n:=if x1 = x2 ∧ y1 = y2 then (3 * (x1 * x1) + E.a) * E.inv (y1 + y1) else (y2 - y1) * E.inv (x2 - x1)
abbrev P (n : Nat):=Option (Fin n × Fin n)
def third (x1 y1 x2 l : Fin n) : P n:=some (l * l - x1 - x2,l * (x1 - (l * l - x1 - x2)) - y1)
def Cur.add (E : Cur n) : P n → P n → P n
 | none,q => q
 | p,none => p
 | some (x1,y1),some (x2,y2) => if x1 = x2 ∧ y1 + y2 = 0 then none else third x1 y1 x2 (E.lam x1 y1 x2 y2)
def neg : P n → P n
 | none => none
 | some (x,y) => some (x,- y)
def Cur.on (E : Cur n) : P n → Prop
 | none => True
 | some (x,y) => OnC E.a E.b x y
variable {E : Cur n}
theorem zcn (G : Good E) {x1 y1 x2 y2 : Fin n} (h1 : OnC E.a E.b x1 y1) (h2 : OnC E.a E.b x2 y2) (hn : ¬ (x1 = x2 ∧ y1 + y2 = 0)) : Slope E.a x1 y1 x2 y2 (E.lam x1 y1 x2 y2):=by
 unfold OnC at h1 h2
 unfold Cur.lam
 by_cases hs : x1 = x2 ∧ y1 = y2
 ·
  rw [if_pos hs]
  obtain ⟨rfl,rfl⟩:=hs
  have hi:=G.hinv (y1 + y1) (fun h => hn ⟨rfl,h⟩)
  generalize E.inv (y1 + y1) = i at hi ⊢
  refine ⟨?_,?_⟩
  ·
   clear hi h1 h2; grobner
  ·
   clear h1 h2; grobner
 ·
  rw [if_neg hs]
  by_cases hx : x1 = x2
  ·
   exfalso
   have e : (y1 - y2) * (y1 + y2) = 0:=by subst hx; grobner
   rcases G.hz _ _ e with h | h
   ·
    exact hs ⟨hx,eq_of_sub h⟩
   ·
    exact hn ⟨hx,h⟩
  ·
   have hx' : x2 - x1 ≠ 0:=fun h => hx (eq_of_sub h).symm
   have hi:=G.hinv (x2 - x1) hx'
   generalize E.inv (x2 - x1) = i at hi ⊢
   have e1 : (y2 - y1) * i * (x2 - x1) = y2 - y1:=by clear h1 h2; grobner
   refine ⟨e1,?_⟩
   generalize (y2 - y1) * i = l at e1 ⊢
   clear hi
   have e : (x2 - x1) * (l * (y1 + y2) - (x1 * x1 + x1 * x2 + x2 * x2 + E.a)) = 0:=by grobner
   rcases G.hz _ _ e with h | h
   ·
    exact absurd h hx'
   ·
    exact eq_of_sub h
theorem zew (G : Good E) {x1 y1 x2 y2 l : Fin n} (h1 : OnC E.a E.b x1 y1) (h2 : OnC E.a E.b x2 y2) (hn : ¬ (x1 = x2 ∧ y1 + y2 = 0)) (hl : Slope E.a x1 y1 x2 y2 l) : E.add (some (x1,y1)) (some (x2,y2)) = third x1 y1 x2 l:=by
 show (if x1 = x2 ∧ y1 + y2 = 0 then none else third x1 y1 x2 (E.lam x1 y1 x2 y2)) = _
 rw [if_neg hn,slope_uniq G.hz hn (zcn G h1 h2 hn) hl]
theorem zdu (E : Cur n) {x1 y1 x2 y2 : Fin n} (hn : x1 = x2 ∧ y1 + y2 = 0) : E.add (some (x1,y1)) (some (x2,y2)) = none:=if_pos hn
theorem none_add (E : Cur n) (p : P n) : E.add none p = p:=by cases p <;> rfl
theorem add_none (E : Cur n) (p : P n) : E.add p none = p:=by cases p <;> rfl
theorem zjb {x1 y1 x2 y2 l : Fin n} (h1 : OnC E.a E.b x1 y1) (hl : Slope E.a x1 y1 x2 y2 l) : E.on (third x1 y1 x2 l):=on_third h1 hl
theorem on_add (G : Good E) {p q : P n} (hp : E.on p) (hq : E.on q) : E.on (E.add p q):=by
 rcases p with _ | ⟨x1,y1⟩
 ·
  rw [none_add]; exact hq
 rcases q with _ | ⟨x2,y2⟩
 ·
  rw [add_none]; exact hp
 by_cases hn : x1 = x2 ∧ y1 + y2 = 0
 ·
  rw [zdu E hn]; trivial
 ·
  have hl:=zcn G hp hq hn
  rw [zew G hp hq hn hl]
  exact zjb hp hl
theorem zhy {x1 y1 x2 y2 l a : Fin n} (hl : Slope a x1 y1 x2 y2 l) : third x1 y1 x2 l = third x2 y2 x1 l:=by
 obtain ⟨h1,_⟩:=hl
 unfold third
 have e1 : l * l - x1 - x2 = l * l - x2 - x1:=by clear h1; grobner
 rw [← e1]
 have e2 : l * (x1 - (l * l - x1 - x2)) - y1 = l * (x2 - (l * l - x1 - x2)) - y2:=by
  have:=mv2 h1
  clear h1 e1
  subst this
  grobner
 rw [e2]
theorem opp_symm {x1 y1 x2 y2 : Fin n} (h : x1 = x2 ∧ y1 + y2 = 0) : x2 = x1 ∧ y2 + y1 = 0:=⟨h.1.symm,by have:=h.2; clear h; grobner⟩
theorem zce (G : Good E) {p q : P n} (hp : E.on p) (hq : E.on q) : E.add p q = E.add q p:=by
 rcases p with _ | ⟨x1,y1⟩
 ·
  rw [none_add,add_none]
 rcases q with _ | ⟨x2,y2⟩
 ·
  rw [none_add,add_none]
 by_cases hn : x1 = x2 ∧ y1 + y2 = 0
 ·
  rw [zdu E hn,zdu E (opp_symm hn)]
 ·
  have hl:=zcn G hp hq hn
  rw [zew G hp hq hn hl,zew G hq hp (fun h => hn (opp_symm h)) (zfx hl),zhy hl]
theorem zeq {p : P n} (hp : E.on p) : E.on (neg p):=by
 rcases p with _ | ⟨x1,y1⟩
 ·
  trivial
 ·
  change OnC _ _ _ _ at hp
  change OnC _ _ _ _
  unfold OnC at *
  rw [← hp]
  clear hp
  grobner
theorem zer (p : P n) : neg (neg p) = p:=by
 rcases p with _ | ⟨x1,y1⟩
 ·
  rfl
 ·
  show some (x1,- - y1) = some (x1,y1)
  have : - - y1 = y1:=by grobner
  rw [this]
theorem zhr (E : Cur n) (p : P n) : E.add p (neg p) = none:=by
 rcases p with _ | ⟨x1,y1⟩
 ·
  rfl
 ·
  exact zdu E ⟨rfl,by grobner⟩
theorem dbl_zero (G : Good E) {y : Fin n} (h : y + y = 0) : y = 0:=by
 have e : 2 * y = 0:=by grobner
 rcases G.hz _ _ e with h | h
 ·
  exact absurd h G.two
 ·
  exact h
theorem y_ne (G : Good E) {x y : Fin n} (h : OnC E.a E.b x y) : y ≠ 0:=by
 intro e
 subst e
 refine G.nt x ?_
 unfold OnC at h
 rw [← h]
 clear h
 grobner
theorem neg_add' (G : Good E) {p q : P n} (hp : E.on p) (hq : E.on q) : neg (E.add p q) = E.add (neg p) (neg q):=by
 rcases p with _ | ⟨x1,y1⟩
 ·
  rw [none_add]; exact (none_add E _).symm
 rcases q with _ | ⟨x2,y2⟩
 ·
  rw [add_none]; exact (add_none E _).symm
 by_cases hn : x1 = x2 ∧ y1 + y2 = 0
 ·
  rw [zdu E hn]
  exact (zdu E ⟨hn.1,by have:=hn.2; clear hn; grobner⟩).symm
 ·
  have hl:=zcn G hp hq hn
  rw [zew G hp hq hn hl]
  have hn' : ¬ (x1 = x2 ∧ - y1 + - y2 = 0):=fun h => hn ⟨h.1,by have:=h.2; clear h hl hn hp hq; grobner⟩
  generalize E.lam x1 y1 x2 y2 = l at hl ⊢
  have hl' : Slope E.a x1 (- y1) x2 (- y2) (- l):=by
   obtain ⟨g1,g2⟩:=hl
   refine ⟨?_,?_⟩
   ·
    clear g2 hn hn' hp hq; grobner
   ·
    rw [← g2]; clear g1 g2 hn hn' hp hq; grobner
  have hN : E.add (neg (some (x1,y1))) (neg (some (x2,y2))) = third x1 (- y1) x2 (- l):=zew G (zeq hp) (zeq hq) hn' hl'
  rw [hN]
  clear hl' hl hn hn' hN hp hq
  show some (_,_) = some (_,_)
  have e1 : - l * - l - x1 - x2 = l * l - x1 - x2:=by grobner
  rw [e1]
  have e2 : - (l * (x1 - (l * l - x1 - x2)) - y1) = - l * (x1 - (l * l - x1 - x2)) - - y1:=by grobner
  rw [e2]
theorem rot (G : Good E) {p q : P n} (hp : E.on p) (hq : E.on q) : E.add q (neg (E.add p q)) = neg p:=by
 rcases p with _ | ⟨x1,y1⟩
 ·
  rw [none_add]; exact zhr E q
 rcases q with _ | ⟨x2,y2⟩
 ·
  rw [none_add,add_none]
 by_cases hn : x1 = x2 ∧ y1 + y2 = 0
 ·
  rw [zdu E hn]
  show E.add (some (x2,y2)) none = some (x1,- y1)
  rw [add_none]
  obtain ⟨rfl,h⟩:=hn
  have : y2 = - y1:=by clear hp hq; grobner
  rw [this]
 ·
  have hl:=zcn G hp hq hn
  rw [zew G hp hq hn hl]
  generalize E.lam x1 y1 x2 y2 = l at hl
  have h3 : E.on (neg (third x1 y1 x2 l)):=zeq (zjb hp hl)
  change E.add _ (some (l * l - x1 - x2,- (l * (x1 - (l * l - x1 - x2)) - y1))) = _
  change E.on (some (l * l - x1 - x2,- (l * (x1 - (l * l - x1 - x2)) - y1))) at h3
  obtain ⟨g1,g2⟩:=hl
  have hy:=mv1 g1
  have e1 : - (l * (x1 - (l * l - x1 - x2)) - y1) = y2 + l * (l * l - x1 - x2 - x2):=by clear g1 g2 h3 hn hp hq; subst hy; grobner
  rw [e1] at h3 ⊢
  have hs : Slope E.a x2 y2 (l * l - x1 - x2) (y2 + l * (l * l - x1 - x2 - x2)) l:=by
   refine ⟨?_,?_⟩
   ·
    clear g1 g2 h3 hn hp hq hy e1; grobner
   ·
    have : E.a = l * (y1 + y2) - (x1 * x1 + x1 * x2 + x2 * x2):=by rw [g2]; clear g1 g2 h3 hn hp hq hy e1; grobner
    rw [this,hy]
    clear this g1 g2 h3 hn hp hq hy e1
    grobner
  have hn2 : ¬ (x2 = l * l - x1 - x2 ∧ y2 + (y2 + l * (l * l - x1 - x2 - x2)) = 0):=by
   rintro ⟨h,h'⟩
   rw [← h] at h'
   refine y_ne G hq (dbl_zero G ?_)
   rw [← h']
   clear h h' hs g1 g2 h3 hn hp hq hy e1
   grobner
  rw [zew G hq h3 hn2 hs]
  show some (_,_) = some (_,_)
  have e2 : l * l - x2 - (l * l - x1 - x2) = x1:=by clear hn2 hs g1 g2 h3 hn hp hq hy e1; grobner
  have e3 : l * (x2 - x1) - y2 = - y1:=by rw [hy]; clear hn2 hs g1 g2 h3 hn hp hq hy e1 e2; grobner
  rw [e2,e3]
theorem back (G : Good E) {p q : P n} (hp : E.on p) (hq : E.on q) : E.add (neg q) (E.add p q) = p:=by
 have h:=rot G hp hq
 have h2:=congrArg neg h
 rw [zer,neg_add' G hq (zeq (on_add G hp hq)),zer] at h2
 exact h2
theorem fore (G : Good E) {p q : P n} (hp : E.on p) (hq : E.on q) : E.add p (E.add (neg p) q) = q:=by
 have h:=back G hq (zeq hp)
 rw [zer,zce G hq (zeq hp)] at h
 exact h
theorem opp_eq {x1 y1 x2 y2 : Fin n} (h : x1 = x2 ∧ y1 + y2 = 0) : (some (x2,y2) : P n) = neg (some (x1,y1)):=by
 obtain ⟨rfl,h⟩:=h
 have : y2 = - y1:=by grobner
 rw [this]
 rfl
theorem two_ways (G : Good E) {x1 y1 x2 y2 x3 y3 : Fin n} (h1 : OnC E.a E.b x1 y1) (h2 : OnC E.a E.b x2 y2) (h3 : OnC E.a E.b x3 y3)
  (n12 : ¬ (x1 = x2 ∧ y1 + y2 = 0)) (n32 : ¬ (x3 = x2 ∧ y3 + y2 = 0))
  (nl : E.add (some (x1,y1)) (some (x2,y2)) ≠ neg (some (x3,y3))) (nr : E.add (some (x3,y3)) (some (x2,y2)) ≠ neg (some (x1,y1))) :
  E.add (E.add (some (x1,y1)) (some (x2,y2))) (some (x3,y3)) = E.add (E.add (some (x3,y3)) (some (x2,y2))) (some (x1,y1)):=by
 have hl:=zcn G h1 h2 n12
 have hm:=zcn G h3 h2 n32
 have el:=zew G h1 h2 n12 hl
 have em:=zew G h3 h2 n32 hm
 generalize E.lam x1 y1 x2 y2 = l at hl el
 generalize E.lam x3 y3 x2 y2 = m at hm em
 rw [el] at nl ⊢
 rw [em] at nr ⊢
 have onD : E.on (third x1 y1 x2 l):=zjb h1 hl
 have onF : E.on (third x3 y3 x2 m):=zjb h3 hm
 unfold third at nl nr onD onF ⊢
 have nD : ¬ (l * l - x1 - x2 = x3 ∧ l * (x1 - (l * l - x1 - x2)) - y1 + y3 = 0):=by
  intro h
  refine nl ?_
  rw [opp_eq h]
  exact (zer _).symm
 have nF : ¬ (m * m - x3 - x2 = x1 ∧ m * (x3 - (m * m - x3 - x2)) - y3 + y1 = 0):=by
  intro h
  refine nr ?_
  rw [opp_eq h]
  exact (zer _).symm
 have hs:=zcn G onD h3 nD
 have ht:=zcn G onF h1 nF
 rw [zew G onD h3 nD hs,zew G onF h1 nF ht,zhy hs,zhy ht]
 generalize E.lam (l * l - x1 - x2) _ x3 y3 = s at hs
 generalize E.lam (m * m - x3 - x2) _ x1 y1 = t at ht
 by_cases hlm : l = m
 ·
  subst hlm
  have hR:=keyR hl (zfx hm)
  have e : (x1 - x3) * (x1 + x2 + x3 - l * l) = 0:=by clear hs ht nD nF nl nr onD onF n12 n32 h1 h2 h3 hl hm el em; grobner
  have hy1:=mv1 hl.1
  have hy3:=mv1 hm.1
  rcases G.hz _ _ e with h | h
  ·
   have hx : x1 = x3:=eq_of_sub h
   have hy : y1 = y3:=by rw [hy1,hy3,hx]
   subst hx
   subst hy
   have:=slope_uniq G.hz nD hs ht
   rw [this]
  ·
   refine absurd ⟨?_,?_⟩ nD
   ·
    clear hs ht nD nF nl nr onD onF n12 n32 h1 h2 h3 hl hm el em hR e hy1 hy3; grobner
   ·
    have e2 : l * l - x1 - x2 = x3:=by clear hs ht nD nF nl nr onD onF n12 n32 h1 h2 h3 hl hm el em hR e hy1 hy3; grobner
    rw [e2,hy1,hy3]
    clear hs ht nD nF nl nr onD onF n12 n32 h1 h2 h3 hl hm el em hR e hy1 hy3 h e2
    grobner
 ·
  have k1:=key G.hz hlm hl (zfx hm) hs nD
  have k2:=key G.hz (fun h => hlm h.symm) hm (zfx hl) ht nF
  have hk : (l - m) * (s + l - (t + m)) = 0:=by clear hs ht nD nF nl nr onD onF n12 n32 h1 h2 h3 hl hm el em; grobner
  have hk2 : s = t + m - l:=by
   rcases G.hz _ _ hk with h | h
   ·
    exact absurd (eq_of_sub h) hlm
   ·
    clear hs ht nD nF nl nr onD onF n12 n32 h1 h2 h3 hl hm el em hk k1 k2; grobner
  have hy1:=mv1 hl.1
  have hy3:=mv1 hm.1
  have hx : x3 = x1 + (m - l) * (t + m):=by rw [k2]; clear hs ht nD nF nl nr onD onF n12 n32 h1 h2 h3 hl hm el em hk k1 k2; grobner
  clear hs ht nD nF nl nr onD onF n12 n32 h1 h2 h3 hl hm el em hk k1 k2
  unfold third
  have ex : s * s - x3 - (l * l - x1 - x2) = t * t - x1 - (m * m - x3 - x2):=by
   clear hy1 hy3
   subst hk2
   subst hx
   grobner
  rw [ex]
  have ey : s * (x3 - (t * t - x1 - (m * m - x3 - x2))) - y3 = t * (x1 - (t * t - x1 - (m * m - x3 - x2))) - y1:=by
   clear ex
   subst hy1
   subst hy3
   subst hk2
   subst hx
   grobner
  rw [ey]
theorem assoc (G : Good E) {p q r : P n} (hp : E.on p) (hq : E.on q) (hr : E.on r) : E.add (E.add p q) r = E.add p (E.add q r):=by
 have hpq:=on_add G hp hq
 have hqr:=on_add G hq hr
 rcases p with _ | ⟨x1,y1⟩
 ·
  rw [none_add,none_add]
 rcases q with _ | ⟨x2,y2⟩
 ·
  rw [none_add,add_none]
 rcases r with _ | ⟨x3,y3⟩
 ·
  rw [add_none,add_none]
 by_cases n12 : x1 = x2 ∧ y1 + y2 = 0
 ·
  rw [zdu E n12,none_add,opp_eq n12]
  exact (fore G hp hr).symm
 by_cases n32 : x3 = x2 ∧ y3 + y2 = 0
 ·
  rw [zdu E (opp_symm n32),add_none,opp_eq n32,zce G (on_add G hp (zeq hr)) hr,zce G hp (zeq hr)]
  exact fore G hr hp
 by_cases nl : E.add (some (x1,y1)) (some (x2,y2)) = neg (some (x3,y3))
 ·
  have h:=rot G hp hq
  rw [nl,zer] at h
  rw [nl,h,zhr,zce G (zeq hr) hr,zhr]
 by_cases nr : E.add (some (x3,y3)) (some (x2,y2)) = neg (some (x1,y1))
 ·
  have h:=rot G hr hq
  rw [nr,zer] at h
  rw [zce G hq hr,nr,zhr,zce G hp hq,h,zce G (zeq hr) hr,zhr]
 rw [two_ways G hp hq hr n12 n32 nl nr,zce G (on_add G hr hq) hp,zce G hr hq]
end law
theorem php : ∀ (b a : Nat) (f : Nat → Nat),(∀ i,i < a → f i < b) → (∀ i j,i < a → j < a → f i = f j → i = j) → a ≤ b:=by
 intro b
 induction b with
 | zero =>
  intro a f h _
  rcases Nat.eq_zero_or_pos a with h0 | h0
  ·
   omega
  ·
   have:=h 0 h0; omega
 | succ b ih =>
  intro a f h inj
  rcases a with _ | a
  ·
   omega
  ·
   have hv:=h a (by omega)
   have:=ih a (fun i => if f i = b then f a else f i) (by
    intro i hi
    have h1:=h i (by omega)
    by_cases e : f i = b
    ·
     rw [if_pos e]
     have : f a ≠ b:=fun e2 => by have:=inj i a (by omega) (by omega) (by rw [e,e2]); omega
     omega
    ·
     rw [if_neg e]; omega) (by
    intro i j hi hj e
    have ha : ∀ k,k < a → f k ≠ f a:=fun k hk e2 => by have:=inj k a (by omega) (by omega) e2; omega
    have e : (if f i = b then f a else f i) = (if f j = b then f a else f j):=e
    by_cases e1 : f i = b <;> by_cases e2 : f j = b
    ·
     exact inj i j (by omega) (by omega) (by rw [e1,e2])
    ·
     rw [if_pos e1,if_neg e2] at e; exact absurd e.symm (ha j hj)
    ·
     rw [if_neg e1,if_pos e2] at e; exact absurd e (ha i hi)
    ·
     rw [if_neg e1,if_neg e2] at e; exact inj i j (by omega) (by omega) e)
   omega
structure Ab (α : Type) where
 op : α → α → α
 o : α
 ng : α → α
 comm : ∀ p q,op p q = op q p
 assoc : ∀ p q r,op (op p q) r = op p (op q r)
 ido : ∀ p,op o p = p
 ngo : ∀ p,op p (ng p) = o
namespace Ab
variable {α : Type} (A : Ab α)
theorem oid (p : α) : A.op p A.o = p:=by rw [A.comm,A.ido]
theorem back (p q : α) : A.op (A.op p q) (A.ng q) = p:=by rw [A.assoc,A.ngo,A.oid]
def mul : Nat → α → α
 | 0,_ => A.o
 | k + 1,p => A.op (mul k p) p
theorem mul_succ (k : Nat) (p : α) : A.mul (k + 1) p = A.op (A.mul k p) p:=rfl
theorem mul_add (i k : Nat) (p : α) : A.mul (i + k) p = A.op (A.mul i p) (A.mul k p):=by
 induction k with
 | zero => show A.mul i p = A.op (A.mul i p) A.o; rw [A.oid]
 | succ k ih => show A.op (A.mul (i + k) p) p = A.op (A.mul i p) (A.op (A.mul k p) p); rw [ih,A.assoc]
theorem mul_one (p : α) : A.mul 1 p = p:=A.ido p
variable {A}
end Ab
def Pr (q : Nat) : Prop:=q ≠ 1 ∧ ∀ d,d ∣ q → d = 1 ∨ d = q
def prodl : List Nat → Nat
 | [] => 1
 | q :: l => q * prodl l
theorem pr_in : ∀ (l : List Nat) (c : Nat),(∀ q,q ∈ l → Pr q) → c ∣ prodl l → c ≠ 1 → ∃ q,q ∈ l ∧ q ∣ c
 | [],c,_,h,h1 => absurd (Nat.eq_one_of_dvd_one h) h1
 | q :: l,c,hp,h,h1 => by
  rcases (hp q (List.mem_cons_self)).2 _ (Nat.gcd_dvd_right c q) with h2 | h2
  ·
   have h3 : c ∣ prodl l:=Nat.Coprime.dvd_of_dvd_mul_left h2 h
   obtain ⟨r,hr,hr2⟩:=pr_in l c (fun r hr => hp r (List.mem_cons_of_mem _ hr)) h3 h1
   exact ⟨r,List.mem_cons_of_mem _ hr,hr2⟩
  ·
   exact ⟨q,List.mem_cons_self,by rw [← h2]; exact Nat.gcd_dvd_left c q⟩
theorem part_of {l : List Nat} {N d : Nat} (hl : prodl l = N) (hp : ∀ q,q ∈ l → Pr q) (h0 : 0 < N) (hd : d ∣ N) (hne : d ≠ N) : ∃ q,q ∈ l ∧ d ∣ N / q:=by
 obtain ⟨c,hc⟩:=hd
 have hc1 : c ≠ 1:=fun h => hne (by rw [hc,h,Nat.mul_one])
 obtain ⟨q,hq,k,hk⟩:=pr_in l c hp ⟨d,by rw [hl,hc,Nat.mul_comm]⟩ hc1
 refine ⟨q,hq,k,?_⟩
 have hq0 : 0 < q:=by
  rcases Nat.eq_zero_or_pos q with h | h
  ·
   subst h; rw [Nat.zero_mul] at hk; subst hk; rw [Nat.mul_zero] at hc; omega
  ·
   exact h
 rw [hc,hk,Nat.mul_left_comm,Nat.mul_div_cancel_left _ hq0]
section power
variable {n : Nat} [NeZero n]
theorem val_one (hn : 1 < n) : (1 : Fin n).val = 1:=by
 show 1 % n = 1
 exact Nat.mod_eq_of_lt hn
def pf (g : Fin n) : Nat → Fin n
 | 0 => 1
 | k + 1 => pf g k * g
theorem zgr (x : Fin n) : x * 1 = x:=by grobner
theorem zfm (x : Fin n) : 1 * x = x:=by grobner
theorem zes (x y z : Fin n) : x * y * z = x * (y * z):=by grobner
theorem zfn (x y : Fin n) : x * y = y * x:=by grobner
theorem pf_add (g : Fin n) (i k : Nat) : pf g (i + k) = pf g i * pf g k:=by
 induction k with
 | zero => exact (zgr _).symm
 | succ k ih => show pf g (i + k) * g = pf g i * (pf g k * g); rw [ih,zes]
theorem pf_one (k : Nat) : pf (1 : Fin n) k = 1:=by
 induction k with
 | zero => rfl
 | succ k ih => show pf 1 k * 1 = 1; rw [ih,zgr]
theorem pf_mul (g : Fin n) (i k : Nat) : pf g (i * k) = pf (pf g i) k:=by
 induction k with
 | zero => rfl
 | succ k ih => rw [Nat.mul_succ,pf_add,ih]; rfl
theorem pf_gcd (g : Fin n) (i k : Nat) : pf g i = 1 → pf g k = 1 → pf g (Nat.gcd i k) = 1:=by
 refine Nat.gcd.induction i k ?_ ?_
 ·
  intro k _ h
  rwa [Nat.gcd_zero_left]
 ·
  intro i k hi ih h1 h2
  rw [Nat.gcd_rec]
  refine ih ?_ h1
  have e:=Nat.div_add_mod k i
  rw [← e,pf_add,pf_mul,h1,pf_one,zfm] at h2
  exact h2
theorem pf_dvd (g : Fin n) {i k : Nat} (h : i ∣ k) (h1 : pf g i = 1) : pf g k = 1:=by
 obtain ⟨c,rfl⟩:=h
 rw [pf_mul,h1,pf_one]
structure Root (g : Fin n) : Prop where
 one : pf g (n - 1) = 1
 all : ∀ x : Fin n,x ≠ 0 → ∃ i,x = pf g i
theorem root_of {g : Fin n} {l : List Nat} (hn : 1 < n) (hl : prodl l = n - 1) (hp : ∀ q,q ∈ l → Pr q) (h1 : pf g (n - 1) = 1) (hq : ∀ q,q ∈ l → pf g ((n - 1) / q) ≠ 1) : Root g:=by
 refine ⟨h1,?_⟩
 have z1 : (0 : Fin n) ≠ 1:=by
  intro h
  have h : (0 : Fin n).val = (1 : Fin n).val:=congrArg Fin.val h
  rw [Fin.val_zero,val_one hn] at h
  omega
 have big : ∀ e,0 < e → e < n - 1 → pf g e ≠ 1:=by
  intro e h0 h2 h3
  have h4:=pf_gcd g (n - 1) e h1 h3
  have hle:=Nat.le_of_dvd h0 (Nat.gcd_dvd_right (n - 1) e)
  obtain ⟨q,hql,hqd⟩:=part_of hl hp (by omega) (Nat.gcd_dvd_left (n - 1) e) (by omega)
  exact hq q hql (pf_dvd g hqd h4)
 have nz : ∀ i,i < n → pf g i ≠ 0:=by
  intro i hi h
  have e : pf g (i + (n - 1 - i)) = 1 ∨ i = n - 1 + 1:=by
   left
   rw [show i + (n - 1 - i) = n - 1 by omega,h1]
  rcases e with e | e
  ·
   rw [pf_add,h] at e
   exact z1 (by rw [← e]; grobner)
  ·
   omega
 have inj : ∀ i j,i < j → j < n → 0 < i → pf g i ≠ pf g j:=by
  intro i j h2 h3 h0 h
  refine big (j - i) (by omega) (by omega) ?_
  have e1 : pf g i * pf g (n - 1 - i) = 1:=by rw [← pf_add,show i + (n - 1 - i) = n - 1 by omega,h1]
  have e2 : pf g j = pf g (j - i) * pf g i:=by rw [← pf_add,show j - i + i = j by omega]
  rw [e2] at h
  have e3 : pf g i * pf g (n - 1 - i) = pf g (j - i) * (pf g i * pf g (n - 1 - i)):=by rw [← zes,← h]
  rw [e1,zgr] at e3
  exact e3.symm
 intro x hx
 refine Classical.byContradiction fun hno => ?_
 have hx0 : x.val ≠ 0:=fun h => hx (Fin.ext (by rw [h,Fin.val_zero]))
 have hno2 : ∀ i,(pf g i).val ≠ x.val:=fun i h => hno ⟨i,Fin.ext h.symm⟩
 have nz2 : ∀ i,i < n → (pf g i).val ≠ 0:=fun i hi h => nz i hi (Fin.ext (by rw [h,Fin.val_zero]))
 have:=php (n - 2) (n - 1) (fun i => if (pf g (i + 1)).val = n - 1 then x.val - 1 else (pf g (i + 1)).val - 1) (by
  intro i hi
  have a1:=nz2 (i + 1) (by omega)
  have a2:=(pf g (i + 1)).isLt
  have a3:=hno2 (i + 1)
  have a4:=x.isLt
  show (if (pf g (i + 1)).val = n - 1 then x.val - 1 else (pf g (i + 1)).val - 1) < n - 2
  split <;> omega) (by
  intro i j hi hj h
  have h : (if (pf g (i + 1)).val = n - 1 then x.val - 1 else (pf g (i + 1)).val - 1) = (if (pf g (j + 1)).val = n - 1 then x.val - 1 else (pf g (j + 1)).val - 1):=h
  have a1:=nz2 (i + 1) (by omega)
  have b1:=nz2 (j + 1) (by omega)
  have a3:=hno2 (i + 1)
  have b3:=hno2 (j + 1)
  have e : (pf g (i + 1)).val = (pf g (j + 1)).val:=by
   split at h <;> split at h <;> omega
  have e : pf g (i + 1) = pf g (j + 1):=Fin.ext e
  rcases Nat.lt_trichotomy i j with h3 | h3 | h3
  ·
   exact absurd e (inj _ _ (by omega) (by omega) (by omega))
  ·
   exact h3
  ·
   exact absurd e.symm (inj _ _ (by omega) (by omega) (by omega)))
 omega
theorem root_inv {g : Fin n} (h : Root g) {x : Fin n} (hx : x ≠ 0) : pf x (n - 1) = 1:=by
 obtain ⟨i,rfl⟩:=h.all x hx
 rw [← pf_mul,Nat.mul_comm,pf_mul,h.one,pf_one]
theorem zhf {g : Fin n} (h : Root g) (hn : 1 < n) {x : Fin n} (hx : x ≠ 0) : x * pf x (n - 2) = 1:=by
 have:=root_inv h hx
 rw [show n - 1 = n - 2 + 1 by omega] at this
 rw [zfn]
 exact this
theorem root_noz {g : Fin n} (h : Root g) (hn : 1 < n) (x y : Fin n) (e : x * y = 0) : x = 0 ∨ y = 0:=by
 by_cases hx : x = 0
 ·
  exact Or.inl hx
 ·
  have hi:=zhf h hn hx
  generalize pf x (n - 2) = i at hi
  right
  have : y = x * i * y:=by rw [hi,zfm]
  rw [this,zfn x i,zes,e]
  clear this hi e hx h
  grobner
theorem root_pr {g : Fin n} (h : Root g) (hn : 1 < n) : Pr n:=by
 refine ⟨by omega,fun d hd => ?_⟩
 have hle:=Nat.le_of_dvd (by omega) hd
 rcases Nat.lt_or_ge d n with hlt | hge
 ·
  left
  have hd0 : 0 < d:=Nat.pos_of_dvd_of_pos hd (by omega)
  have hx : (⟨d,hlt⟩ : Fin n) ≠ 0:=fun e => by have:=congrArg Fin.val e; rw [Fin.val_zero] at this; have this : d = 0:=this; omega
  have hi:=zhf h hn hx
  generalize pf (⟨d,hlt⟩ : Fin n) (n - 2) = i at hi
  have hi:=congrArg Fin.val hi
  rw [Fin.val_mul,val_one hn] at hi
  have hi : d * i.val % n = 1:=hi
  have h2 : d ∣ d * i.val % n:=(Nat.dvd_mod_iff hd).mpr ⟨i.val,rfl⟩
  rw [hi] at h2
  exact Nat.eq_one_of_dvd_one h2
 ·
  right; omega
end power
def pw (m : Nat) : Nat → Nat → Nat → Nat
 | 0,_,_ => 1 % m
 | f + 1,b,e => if e = 0 then 1 % m else if e % 2 = 1 then b * pw m f (b * b % m) (e / 2) % m else pw m f (b * b % m) (e / 2)
section number
variable {n : Nat} [NeZero n]
def F (x : Nat) : Fin n:=⟨x % n,Nat.mod_lt _ (Nat.pos_of_ne_zero (NeZero.ne n))⟩
theorem F_mod (x : Nat) : (F (x % n) : Fin n) = F x:=Fin.ext (Nat.mod_mod _ _)
theorem F_mul (x y : Nat) : (F (x * y) : Fin n) = F x * F y:=Fin.ext (by rw [Fin.val_mul]; exact Nat.mul_mod _ _ _)
theorem F_add (x y : Nat) : (F (x + y) : Fin n) = F x + F y:=Fin.ext (by rw [Fin.val_add]; exact Nat.add_mod _ _ _)
theorem F_val (x : Fin n) : F x.val = x:=Fin.ext (Nat.mod_eq_of_lt x.isLt)
theorem pf_sq (x : Fin n) (k : Nat) : pf (x * x) k = pf x (2 * k):=by
 rw [pf_mul]
 congr 1
 show x * x = 1 * x * x
 rw [zfm]
theorem pw_pf : ∀ (f b e : Nat),e < 2 ^ f → pw n f b e = (pf (F b : Fin n) e).val
 | 0,b,e,h => by
  have : e = 0:=by omega
  subst this
  rfl
 | f + 1,b,e,h => by
  unfold pw
  have hd : e / 2 < 2 ^ f:=by rw [Nat.pow_succ] at h; omega
  have ih:=pw_pf f (b * b % n) (e / 2) hd
  rw [F_mod,F_mul,pf_sq] at ih
  by_cases h0 : e = 0
  ·
   rw [if_pos h0,h0]; rfl
  ·
   rw [if_neg h0]
   by_cases h1 : e % 2 = 1
   ·
    rw [if_pos h1,ih]
    have e1 : e = 2 * (e / 2) + 1:=by omega
    generalize e / 2 = k at e1
    subst e1
    show _ = (pf (F b) (2 * k) * F b).val
    rw [Fin.val_mul,Nat.mul_comm]
    show (pf (F b : Fin n) (2 * k)).val * b % n = (pf (F b : Fin n) (2 * k)).val * (b % n) % n
    rw [Nat.mul_mod _ (b % n),Nat.mod_mod,← Nat.mul_mod]
   ·
    rw [if_neg h1,ih]
    congr 2
    omega
end number
def rowOk (ps : List Nat) (r : Nat × Nat × List Nat) : Bool :=
 decide (1 < r.1) && decide (r.1 < 2 ^ 256) && decide (prodl r.2.2 = r.1 - 1) && r.2.2.all (fun q => ps.contains q) && decide (pw r.1 256 r.2.1 (r.1 - 1) = 1) && r.2.2.all (fun q => decide (pw r.1 256 r.2.1 ((r.1 - 1) / q) ≠ 1))
theorem row_root {ps : List Nat} {n g : Nat} {l : List Nat} [NeZero n] (hp : ∀ q,q ∈ ps → Pr q) (h : rowOk ps (n,g,l) = true) : 1 < n ∧ Root (F g : Fin n):=by
 unfold rowOk at h
 simp only [Bool.and_eq_true,decide_eq_true_eq,List.all_eq_true] at h
 obtain ⟨⟨⟨⟨⟨h1,h2⟩,h3⟩,h4⟩,h5⟩,h6⟩:=h
 have h5 : pw n 256 g (n - 1) = 1:=h5
 have h1 : 1 < n:=h1
 have h2 : n < 2 ^ 256:=h2
 refine ⟨h1,root_of (l:=l) h1 h3 (fun q hq => hp q (by have:=h4 q hq; exact List.contains_iff_mem.mp this)) ?_ ?_⟩
 ·
  apply Fin.ext
  exact (pw_pf (n:=n) 256 g (n - 1) (Nat.lt_of_le_of_lt (Nat.sub_le _ _) h2)).symm.trans (h5.trans (val_one h1).symm)
 ·
  intro q hq e
  have h6 : pw n 256 g ((n - 1) / q) ≠ 1:=h6 q hq
  refine h6 ?_
  have e2:=pw_pf (n:=n) 256 g ((n - 1) / q) (Nat.lt_of_le_of_lt (Nat.div_le_self _ _) (Nat.lt_of_le_of_lt (Nat.sub_le _ _) h2))
  rw [e2]
  exact (congrArg Fin.val e).trans (val_one h1)
def tabOk : List Nat → List (Nat × Nat × List Nat) → Bool
 | _,[] => true
 | ps,r :: t => rowOk ps r && tabOk (r.1 :: ps) t
theorem row_pr {ps : List Nat} {r : Nat × Nat × List Nat} (hp : ∀ q,q ∈ ps → Pr q) (h : rowOk ps r = true) : Pr r.1:=by
 obtain ⟨n,g,l⟩:=r
 show Pr n
 have h1 : 1 < n:=by
  unfold rowOk at h
  simp only [Bool.and_eq_true,decide_eq_true_eq] at h
  exact h.1.1.1.1.1
 haveI : NeZero n:=⟨by omega⟩
 exact root_pr (row_root hp h).2 h1
theorem tab_pr : ∀ (t : List (Nat × Nat × List Nat)) (ps : List Nat),(∀ q,q ∈ ps → Pr q) → tabOk ps t = true → ∀ r,r ∈ t → Pr r.1 ∧ ∃ ps',(∀ q,q ∈ ps' → Pr q) ∧ rowOk ps' r = true
 | [],_,_,_,r,hr => absurd hr List.not_mem_nil
 | r0 :: t,ps,hp,h,r,hr => by
  have h : (rowOk ps r0 && tabOk (r0.1 :: ps) t) = true:=h
  rw [Bool.and_eq_true] at h
  have h0:=row_pr hp h.1
  rcases List.mem_cons.mp hr with e | e
  ·
   rw [e]; exact ⟨h0,ps,hp,h.1⟩
  ·
   refine tab_pr t (r0.1 :: ps) ?_ h.2 r e
   intro q hq
   rcases List.mem_cons.mp hq with e | e
   ·
    rw [e]; exact h0
   ·
    exact hp q e
theorem pr_two : Pr 2:=by
 refine ⟨by decide,fun d hd => ?_⟩
 have:=Nat.le_of_dvd (by decide) hd
 have h0 : d ≠ 0:=by rintro rfl; omega
 omega
def tab : List (Nat × Nat × List Nat):=[
 (257,3,[2,2,2,2,2,2,2,2]),
 (3,2,[2]),
 (5,2,[2,2]),
 (641,3,[2,2,2,2,2,2,2,5]),
 (65537,3,[2,2,2,2,2,2,2,2,2,2,2,2,2,2,2,2]),
 (11,2,[2,5]),
 (727,5,[2,3,11,11]),
 (17449,14,[2,2,2,3,727]),
 (6700417,5,[2,2,2,2,2,2,2,3,17449]),
 (241,7,[2,2,2,2,3,5]),
 (2411,6,[2,5,241]),
 (17,3,[2,2,2,2]),
 (7,3,[2,3]),
 (197,2,[2,2,7,7]),
 (43,3,[2,3,7]),
 (173,2,[2,2,43]),
 (13,2,[2,2,3]),
 (53,2,[2,2,13]),
 (919,7,[2,3,3,3,17]),
 (3677,2,[2,2,919]),
 (66417393611,6,[2,5,53,173,197,3677]),
 (11290956913871,13,[2,5,17,66417393611]),
 (181,2,[2,2,3,3,5]),
 (1087,3,[2,3,181]),
 (4349,2,[2,2,1087]),
 (78283,3,[2,3,3,4349]),
 (23,5,[2,11]),
 (757,2,[2,2,3,3,3,7]),
 (18169,11,[2,2,2,3,757]),
 (313,10,[2,2,2,3,13]),
 (704251,2,[2,3,3,5,5,5,313]),
 (46076956964474543,5,[2,23,18169,78283,704251]),
 (107,2,[2,53]),
 (157,5,[2,2,3,13]),
 (3769,7,[2,2,2,3,157]),
 (204061199,11,[2,11,23,107,3769]),
 (34282281433,17,[2,2,2,3,7,204061199]),
 (0x22b559b5c816ae00f2378e18df38c5410ed597,3,[2,3,3,2411,34282281433,11290956913871,46076956964474543]),
 (0x926d1276e41fae13fdda5f78edb7802a76951509,11,[2,2,2,3,3,3,5,0x22b559b5c816ae00f2378e18df38c5410ed597]),
 (1531,2,[2,3,3,5,17]),
 (661,2,[2,2,3,5,11]),
 (490463,14,[2,7,53,661]),
 (0xffffffff00000001000000000000000000000000ffffffffffffffffffffffff,6,[2,3,5,5,17,257,641,1531,65537,490463,6700417,0x926d1276e41fae13fdda5f78edb7802a76951509]),
 (131,2,[2,5,13]),
 (71,7,[2,5,7]),
 (37,2,[2,2,3,3]),
 (9547,2,[2,3,37,43]),
 (38189,2,[2,2,9547]),
 (3407,5,[2,13,131]),
 (263,5,[2,131]),
 (126241,7,[2,2,2,2,2,3,5,263]),
 (19,2,[2,3,3]),
 (337,10,[2,2,2,2,3,7]),
 (31,3,[2,3,5]),
 (104471,11,[2,5,31,337]),
 (3969899,2,[2,19,104471]),
 (1002328039319,19,[2,126241,3969899]),
 (97,5,[2,2,2,2,2,3]),
 (29,2,[2,2,7]),
 (16879,3,[2,3,29,97]),
 (1297,10,[2,2,2,2,3,3,3,3]),
 (41,6,[2,2,2,5]),
 (155317,5,[2,2,3,7,43,43]),
 (191039911,3,[2,3,5,41,155317]),
 (151,6,[2,3,5,5]),
 (1511,11,[2,5,151]),
 (3023,5,[2,1511]),
 (127,3,[2,3,3,7]),
 (208150935158385979,2,[2,3,11,43,127,3023,191039911]),
 (2624747550333869278416773953,7,[2,2,2,2,2,2,3,3,1297,16879,208150935158385979]),
 (373,2,[2,2,3,31]),
 (311,17,[2,5,31]),
 (311245691,2,[2,5,7,17,29,29,311]),
 (622491383,5,[2,311245691]),
 (1201,11,[2,2,2,2,3,5,5]),
 (229,6,[2,2,3,19]),
 (9350987,2,[2,17,229,1201]),
 (187019741,2,[2,2,5,9350987]),
 (0xffffffff00000000ffffffffffffffffbce6faada7179e84f3b9cac2fc632551,7,[2,2,2,2,3,71,131,373,3407,17449,38189,187019741,622491383,1002328039319,2624747550333869278416773953])]
theorem tab_ok : tabOk [2] tab = true:=by decide +kernel
def pp : Nat:=0xffffffff00000001000000000000000000000000ffffffffffffffffffffffff
def nn : Nat:=0xffffffff00000000ffffffffffffffffbce6faada7179e84f3b9cac2fc632551
instance : NeZero pp:=⟨by decide +kernel⟩
instance : NeZero nn:=⟨by decide +kernel⟩
theorem two_only : ∀ q,q ∈ [2] → Pr q:=by
 intro q hq
 have : q = 2:=List.mem_singleton.mp hq
 rw [this]
 exact pr_two
theorem pp_root : ∃ g : Fin pp,Root g:=by
 obtain ⟨ps,hp,h⟩:=(tab_pr tab [2] two_only tab_ok (0xffffffff00000001000000000000000000000000ffffffffffffffffffffffff,6,[2,3,5,5,17,257,641,1531,65537,490463,6700417,0x926d1276e41fae13fdda5f78edb7802a76951509]) (by decide +kernel)).2
 exact ⟨_,(row_root (n:=pp) hp h).2⟩
theorem nn_pr : Pr nn:=(tab_pr tab [2] two_only tab_ok (0xffffffff00000000ffffffffffffffffbce6faada7179e84f3b9cac2fc632551,7,[2,2,2,2,3,71,131,373,3407,17449,38189,187019741,622491383,1002328039319,2624747550333869278416773953]) (by decide +kernel)).1
/-! P-256. -/
def bb : Nat:=0x5ac635d8aa3a93e7b3ebbd55769886bc651d06b0cc53b0f63bce3c3e27d2604b
def gx : Nat:=0x6b17d1f2e12c4247f8bce6e563a440f277037d812deb33a0f4a13945d898c296
def gy : Nat:=0x4fe342e2fe1a7f9b8ee7eb4a7c0f9e162bce33576b315ececbb6406837bf51f5
def E256 : Cur pp:={ a:=F (pp - 3),b:=F bb,inv:=fun x => pf x (pp - 2) }
theorem pp_big : 3 < pp:=by decide +kernel
theorem F_pp : (F pp : Fin pp) = 0:=Fin.ext (Nat.mod_self pp)
theorem F_one : (F 1 : Fin pp) = 1:=rfl
theorem F_zero : (F 0 : Fin pp) = 0:=rfl
theorem F_three : (F 3 : Fin pp) = 3:=rfl
def sb (x y : Nat) : Nat:=(x + (pp - y % pp)) % pp
theorem F_p3 : (F (pp - 3) : Fin pp) = - 3:=by
 have e : (F (pp - 3) : Fin pp) + 3 = 0:=by
  rw [← F_three,← F_add,Nat.sub_add_cancel (Nat.le_of_lt pp_big),F_pp]
 generalize (F (pp - 3) : Fin pp) = z at e ⊢
 grobner
def tm (u v : Nat × Nat × Nat) : Nat × Nat × Nat :=
 let r3:=u.2.1 * v.2.2 + u.2.2 * v.2.1
 let r4:=u.2.2 * v.2.2
 ((u.1 * v.1 + (pp - bb) * r3) % pp,(u.1 * v.2.1 + u.2.1 * v.1 + 3 * r3 + (pp - bb) * r4) % pp,(u.1 * v.2.2 + u.2.1 * v.2.1 + u.2.2 * v.1 + 3 * r4) % pp)
def ev (u : Nat × Nat × Nat) (r : Fin pp) : Fin pp:=F u.1 + F u.2.1 * r + F u.2.2 * (r * r)
theorem F_bb : (F (pp - bb) : Fin pp) = - F bb:=by
 have e : (F (pp - bb) : Fin pp) + F bb = 0:=by
  rw [← F_add,Nat.sub_add_cancel (by decide +kernel),F_pp]
 generalize (F (pp - bb) : Fin pp) = z at e ⊢
 generalize (F bb : Fin pp) = v at e ⊢
 grobner
theorem ring_tm {n : Nat} [NeZero n] (a0 a1 a2 b0 b1 b2 b r : Fin n) (h : r * r * r = 3 * r - b) : (a0 * b0 + - b * (a1 * b2 + a2 * b1)) + (a0 * b1 + a1 * b0 + 3 * (a1 * b2 + a2 * b1) + - b * (a2 * b2)) * r + (a0 * b2 + a1 * b1 + a2 * b0 + 3 * (a2 * b2)) * (r * r) = (a0 + a1 * r + a2 * (r * r)) * (b0 + b1 * r + b2 * (r * r)):=by
 have : b = 3 * r - r * r * r:=by grobner
 subst this
 clear h
 grobner
theorem tm_ev {r : Fin pp} (h : r * r * r = 3 * r - F bb) (u v : Nat × Nat × Nat) : ev (tm u v) r = ev u r * ev v r:=by
 obtain ⟨a0,a1,a2⟩:=u
 obtain ⟨b0,b1,b2⟩:=v
 unfold tm ev
 dsimp only
 rw [F_mod,F_mod,F_mod]
 simp only [F_add,F_mul]
 rw [F_bb,F_three]
 exact ring_tm _ _ _ _ _ _ _ _ h
def tp : Nat → Nat × Nat × Nat → Nat → Nat × Nat × Nat
 | 0,_,_ => (1,0,0)
 | f + 1,u,e => if e = 0 then (1,0,0) else if e % 2 = 1 then tm u (tp f (tm u u) (e / 2)) else tp f (tm u u) (e / 2)
theorem ring_one {n : Nat} [NeZero n] (r : Fin n) : 1 + 0 * r + 0 * (r * r) = 1:=by grobner
theorem ev_one (r : Fin pp) : ev (1,0,0) r = 1:=by
 unfold ev
 dsimp only
 rw [F_one,F_zero]
 exact ring_one r
theorem tp_ev {r : Fin pp} (h : r * r * r = 3 * r - F bb) : ∀ (f : Nat) (u : Nat × Nat × Nat) (e : Nat),e < 2 ^ f → ev (tp f u e) r = pf (ev u r) e
 | 0,u,e,he => by
  have : e = 0:=by omega
  subst this
  exact ev_one r
 | f + 1,u,e,he => by
  unfold tp
  have hd : e / 2 < 2 ^ f:=by rw [Nat.pow_succ] at he; omega
  have ih:=tp_ev h f (tm u u) (e / 2) hd
  rw [tm_ev h,pf_sq] at ih
  by_cases h0 : e = 0
  ·
   rw [if_pos h0,h0]; exact ev_one r
  ·
   rw [if_neg h0]
   by_cases h1 : e % 2 = 1
   ·
    rw [if_pos h1,tm_ev h,ih]
    have e1 : e = 2 * (e / 2) + 1:=by omega
    generalize e / 2 = k at e1
    subst e1
    exact zfn _ _
   ·
    rw [if_neg h1,ih]
    congr 1
    omega
def tq : Nat × Nat × Nat:=tp 256 (0,1,0) pp
theorem tq_ok : tm (0xa969487079f1744798bf0de6fded091b66e9d328eb0645fe5d979d1339b7f47f,0xa4a08891884100c13323460107a8d28eede4387fa3e6e9bfebec9f6d72d0b5cc,0x4cde11cf86cb876cd59cf0115813c55af0ecd3cda667d98bb9a347a56aa74a6d) (tq.1,tq.2.1 + (pp - 1),tq.2.2) = (1,0,0):=by decide +kernel
theorem no_root (r : Fin pp) : r * r * r + F (pp - 3) * r + F bb ≠ 0:=by
 intro h
 rw [F_p3] at h
 have h3 : r * r * r = 3 * r - F bb:=by
  generalize (F bb : Fin pp) = v at h ⊢
  grobner
 obtain ⟨g,hg⟩:=pp_root
 have e1 : ev tq r = r:=by
  unfold tq
  rw [tp_ev h3 256 _ pp (by decide +kernel)]
  have e0 : ev (0,1,0) r = r:=by
   unfold ev
   dsimp only
   rw [F_one,F_zero]
   clear h h3
   grobner
  rw [e0]
  by_cases hr : r = 0
  ·
   subst hr
   show pf 0 (pp - 1) * 0 = 0
   generalize pf (0 : Fin pp) (pp - 1) = z
   grobner
  ·
   have e2:=root_inv hg hr
   have e3 : pf r (pp - 1 + 1) = pf r (pp - 1) * r:=rfl
   rw [e2,zfm,show pp - 1 + 1 = pp by decide +kernel] at e3
   exact e3
 have e2 : ev (tq.1,tq.2.1 + (pp - 1),tq.2.2) r = ev tq r - r:=by
  have e4 : (F (pp - 1) : Fin pp) = - 1:=by
   have e : (F (pp - 1) : Fin pp) + 1 = 0:=by
    rw [← F_one,← F_add,Nat.sub_add_cancel (by decide +kernel),F_pp]
   generalize (F (pp - 1) : Fin pp) = z at e ⊢
   grobner
  unfold ev
  dsimp only
  rw [F_add,e4]
  generalize (F tq.1 : Fin pp) = a0
  generalize (F tq.2.1 : Fin pp) = a1
  generalize (F tq.2.2 : Fin pp) = a2
  clear h h3 e1
  grobner
 have e5:=tm_ev h3 (0xa969487079f1744798bf0de6fded091b66e9d328eb0645fe5d979d1339b7f47f,0xa4a08891884100c13323460107a8d28eede4387fa3e6e9bfebec9f6d72d0b5cc,0x4cde11cf86cb876cd59cf0115813c55af0ecd3cda667d98bb9a347a56aa74a6d) (tq.1,tq.2.1 + (pp - 1),tq.2.2)
 rw [tq_ok,e2,e1,ev_one] at e5
 generalize ev _ r = z at e5
 have z1 : (0 : Fin pp) ≠ 1:=by decide +kernel
 refine z1 ?_
 rw [e5]
 clear e5 h h3 e1 e2
 grobner
theorem good : Good E256:=by
 obtain ⟨g,hg⟩:=pp_root
 have h1 : 1 < pp:=Nat.lt_trans (by decide) pp_big
 exact { hz:=root_noz hg h1,nt:=no_root,two:=by decide +kernel,hinv:=fun x hx => zhf hg h1 hx }
abbrev Q:={ p : P pp // E256.on p }
def grp : Ab Q where
 op p q:=⟨E256.add p.1 q.1,on_add good p.2 q.2⟩
 o:=⟨none,trivial⟩
 ng p:=⟨neg p.1,zeq p.2⟩
 comm p q:=Subtype.ext (zce good p.2 q.2)
 assoc p q r:=Subtype.ext (assoc good p.2 q.2 r.2)
 ido p:=Subtype.ext (none_add E256 p.1)
 ngo p:=Subtype.ext (zhr E256 p.1)
theorem on_base : E256.on (some (F gx,F gy)):=by
 show F gy * F gy = F gx * F gx * F gx + F (pp - 3) * F gx + F bb
 rw [← F_mul,← F_mul,← F_mul,← F_mul,← F_add,← F_add]
 exact Fin.ext (by decide +kernel)
def base : Q:=⟨some (F gx,F gy),on_base⟩
def lineOk (l x y x2 y2 : Nat) : Bool:=decide (l * sb x2 x % pp = sb y2 y) && decide (l * (y + y2) % pp = (x * x + x * x2 + x2 * x2 + (pp - 3)) % pp) && (decide (sb x x2 ≠ 0) || decide ((y + y2) % pp ≠ 0))
def chain : List (Bool × Nat) → Nat → Nat → Nat → Option (Nat × Nat × Nat)
 | [],k,x,y => some (k,x,y)
 | (true,l) :: t,k,x,y => if lineOk l x y x y = true then chain t (k + k) (sb (sb (l * l) x) x) (sb (l * sb x (sb (sb (l * l) x) x)) y) else none
 | (false,l) :: t,k,x,y => if lineOk l x y gx gy = true then chain t (k + 1) (sb (sb (l * l) x) gx) (sb (l * sb x (sb (sb (l * l) x) gx)) y) else none
def eu : Nat → Nat → Nat → Nat → Nat → Nat
 | 0,_,_,s,_ => s
 | f + 1,r,r2,s,s2 => if r2 = 0 then s else eu f r2 (r % r2) s2 ((s + (pp - r / r2 % pp) * s2) % pp)
def iv (x : Nat) : Nat:=eu 600 (x % pp) pp 1 0
def steps' : Nat → Nat → Nat → List (Bool × Nat)
 | 0,_,_ => []
 | i + 1,x,y =>
  (fun l => (true,l) :: (fun x1 y1 => if (nn - 1) / 2 ^ i % 2 = 1 then (fun m => (false,m) :: (fun x2 y2 => steps' i x2 y2) (sb (sb (m * m) x1) gx) (sb (m * sb x1 (sb (sb (m * m) x1) gx)) y1)) (sb gy y1 * iv (sb gx x1) % pp) else steps' i x1 y1) (sb (sb (l * l) x) x) (sb (l * sb x (sb (sb (l * l) x) x)) y)) ((3 * x * x + (pp - 3)) * iv (y + y) % pp)
def steps : List (Bool × Nat):=steps' 255 gx gy
def code : Q → Nat
 | ⟨none,_⟩ => 0
 | ⟨some (x,y),_⟩ => 1 + 2 * x.val + (if y.val ≤ (- y).val then 0 else 1)
/-! How a walk meets these: numbers below the modulus,as values of the field's. -/

theorem pp_pr : Pr pp:=by
 obtain ⟨g,hg⟩:=pp_root
 exact root_pr hg (Nat.lt_trans (by decide) pp_big)
theorem v_add (x y : Fin pp) : (x.val + y.val) % pp = (x + y).val:=(Fin.val_add x y).symm
theorem v_mul (x y : Fin pp) : x.val * y.val % pp = (x * y).val:=(Fin.val_mul x y).symm
theorem v_sub (x y : Fin pp) : (x.val + pp - y.val) % pp = (x - y).val:=by
 have h:=y.isLt
 rw [Fin.sub_def]
 show _ = (pp - y.val + x.val) % pp
 congr 1
 omega
theorem v_gcd {x : Fin pp} (h : x ≠ 0) : Nat.gcd x.val pp = 1:=by
 rcases pp_pr.2 _ (Nat.gcd_dvd_right x.val pp) with h1 | h1
 ·
  exact h1
 ·
  exfalso
  have h2:=Nat.gcd_dvd_left x.val pp
  rw [h1] at h2
  have h0 : x.val ≠ 0:=fun e => h (Fin.ext (by rw [e,Fin.val_zero]))
  have h3:=Nat.le_of_dvd (Nat.pos_of_ne_zero h0) h2
  have:=x.isLt
  omega
theorem v_inv {x : Fin pp} {t : Nat} (ht : t < pp) (h : x.val * t % pp = 1) : t = (E256.inv x).val:=by
 have e1 : x * F t = 1:=by
  apply Fin.ext
  rw [Fin.val_mul]
  show x.val * (t % pp) % pp = 1
  rw [Nat.mod_eq_of_lt ht,h]
 have hx : x ≠ 0:=by
  rintro rfl
  rw [Fin.val_zero,Nat.zero_mul,Nat.zero_mod] at h
  exact absurd h (by decide)
 have e2:=good.hinv x hx
 have e3 : (F t : Fin pp) = E256.inv x:=by
  have : (F t : Fin pp) = x * F t * E256.inv x:=by
   rw [zfn x,zes,e2,zgr]
  rw [this,e1,zfm]
 rw [← e3]
 exact (Nat.mod_eq_of_lt ht).symm
theorem ring_on {n : Nat} [NeZero n] (b x y : Fin n) : y * y = x * x * x - 3 * x + b ↔ y * y = x * x * x + - 3 * x + b:=by
 constructor
 ·
  intro h; rw [h]; clear h; grobner
 ·
  intro h; rw [h]; clear h; grobner
theorem on_iff (x y : Fin pp) : E256.on (some (x,y)) ↔ y * y = x * x * x - 3 * x + F bb:=by
 show y * y = x * x * x + F (pp - 3) * x + F bb ↔ _
 rw [F_p3]
 exact (ring_on _ _ _).symm
theorem ring_lam {n : Nat} [NeZero n] (x i : Fin n) : (3 * (x * x) + - 3) * i = 3 * (x * x - 1) * i:=by grobner
theorem lam_same (x y : Fin pp) : E256.lam x y x y = 3 * (x * x - 1) * E256.inv (y + y):=by
 unfold Cur.lam
 rw [if_pos ⟨rfl,rfl⟩]
 show (3 * (x * x) + F (pp - 3)) * _ = _
 rw [F_p3]
 exact ring_lam _ _
theorem lam_else {x1 y1 x2 y2 : Fin pp} (h : ¬ (x1 = x2 ∧ y1 = y2)) : E256.lam x1 y1 x2 y2 = (y2 - y1) * E256.inv (x2 - x1):=if_neg h
theorem ring_neg {n : Nat} [NeZero n] (y1 y2 : Fin n) : y1 = 0 - y2 ↔ y1 + y2 = 0:=by
 constructor
 ·
  intro h; subst h; grobner
 ·
  intro h; grobner
theorem add_far {x1 y1 x2 y2 : Fin pp} (h : x1 = x2 ∧ y1 = 0 - y2) : E256.add (some (x1,y1)) (some (x2,y2)) = none:=zdu E256 ⟨h.1,(ring_neg _ _).mp h.2⟩
theorem add_near {x1 y1 x2 y2 : Fin pp} (h : ¬ (x1 = x2 ∧ y1 = 0 - y2)) : E256.add (some (x1,y1)) (some (x2,y2)) = third x1 y1 x2 (E256.lam x1 y1 x2 y2) :=
 if_neg (fun e => h ⟨e.1,(ring_neg _ _).mpr e.2⟩)
theorem down_same {x y : Fin pp} (h : E256.on (some (x,y))) : y + y ≠ 0:=fun e => y_ne good h (dbl_zero good e)
theorem down_else {x1 y1 x2 y2 : Fin pp} (h1 : E256.on (some (x1,y1))) (h2 : E256.on (some (x2,y2))) (hn : ¬ (x1 = x2 ∧ y1 = 0 - y2)) (hs : ¬ (x1 = x2 ∧ y1 = y2)) : x2 - x1 ≠ 0:=by
 intro e
 have hx:=(eq_of_sub e).symm
 subst hx
 have e1 : y1 * y1 = y2 * y2:=by
  have h1 : y1 * y1 = _:=h1
  have h2 : y2 * y2 = _:=h2
  rw [h1,h2]
 have e2 : (y1 - y2) * (y1 + y2) = 0:=by clear h1 h2 hn hs e; grobner
 rcases good.hz _ _ e2 with h | h
 ·
  exact hs ⟨rfl,eq_of_sub h⟩
 ·
  exact hn ⟨rfl,(ring_neg _ _).mpr h⟩
theorem mul_top (k i : Nat) (q : Q) : grp.mul (k / 2 ^ i) q = (if k / 2 ^ i % 2 = 1 then grp.op (grp.op (grp.mul (k / 2 ^ (i + 1)) q) (grp.mul (k / 2 ^ (i + 1)) q)) q else grp.op (grp.mul (k / 2 ^ (i + 1)) q) (grp.mul (k / 2 ^ (i + 1)) q)):=by
 have e : k / 2 ^ (i + 1) = k / 2 ^ i / 2:=by rw [Nat.pow_succ,Nat.div_div_eq_div_mul]
 rw [e]
 generalize k / 2 ^ i = m
 rw [← grp.mul_add]
 by_cases h : m % 2 = 1
 ·
  rw [if_pos h,← grp.mul_succ]
  congr 1
  omega
 ·
  rw [if_neg h]
  congr 1
  omega
def pX : P pp → Nat
 | none => 0
 | some (x,_) => x.val
def pY : P pp → Nat
 | none => 0
 | some (_,y) => y.val
def pFar : P pp → Bool
 | none => true
 | some _ => false
theorem pX_lt (p : P pp) : pX p < pp:=by
 rcases p with _ | ⟨x,y⟩
 ·
  exact Nat.lt_trans (by decide) pp_big
 ·
  exact x.isLt
theorem pY_lt (p : P pp) : pY p < pp:=by
 rcases p with _ | ⟨x,y⟩
 ·
  exact Nat.lt_trans (by decide) pp_big
 ·
  exact y.isLt
theorem p_inj {p q : P pp} (h1 : pX p = pX q) (h2 : pY p = pY q) (h3 : pFar p = pFar q) : p = q:=by
 rcases p with _ | ⟨x,y⟩ <;> rcases q with _ | ⟨x',y'⟩
 ·
  rfl
 ·
  exact absurd h3 (by simp [pFar])
 ·
  exact absurd h3 (by simp [pFar])
 ·
  rw [show x = x' from Fin.ext h1,show y = y' from Fin.ext h2]
def isOn (X Y : Nat) (far : Bool) : Prop:=if far = true then X = 0 ∧ Y = 0 else X < pp ∧ Y < pp ∧ E256.on (some (F X,F Y))
theorem isOn_iff (X Y : Nat) (far : Bool) : isOn X Y far ↔ ∃ q : Q,X = pX q.1 ∧ Y = pY q.1 ∧ far = pFar q.1:=by
 unfold isOn
 by_cases h : far = true
 ·
  rw [if_pos h]
  subst h
  constructor
  ·
   rintro ⟨rfl,rfl⟩
   exact ⟨grp.o,rfl,rfl,rfl⟩
  ·
   rintro ⟨⟨_ | ⟨x,y⟩,hq⟩,h1,h2,h3⟩
   ·
    exact ⟨h1,h2⟩
   ·
    exact absurd h3 (by simp [pFar])
 ·
  rw [if_neg h]
  have h : far = false:=by simpa using h
  subst h
  constructor
  ·
   rintro ⟨hx,hy,ho⟩
   exact ⟨⟨_,ho⟩,(Nat.mod_eq_of_lt hx).symm,(Nat.mod_eq_of_lt hy).symm,rfl⟩
  ·
   rintro ⟨⟨_ | ⟨x,y⟩,hq⟩,h1,h2,h3⟩
   ·
    exact absurd h3 (by simp [pFar])
   ·
    have h1 : X = x.val:=h1
    have h2 : Y = y.val:=h2
    subst h1
    subst h2
    rw [F_val,F_val]
    exact ⟨x.isLt,y.isLt,hq⟩
end Go.Proofs.YtihophdbkjhopaaGreatDoor.Pt
namespace Go.Proofs.YtihophdbkjhopaaGreatDoor
open Go.RowKit
open Go.Value renaming int → vI
open Go.IntKind renaming u64 → vU
open Go.Act renaming put → aP
open List renaming setIfInBounds_toArray → lA, set_cons_zero → lZ, set_cons_succ → lS
theorem zci : Pt.pp < top:=by decide +kernel
theorem pp_pos : 0 < Pt.pp:=by decide +kernel
theorem zch (w : World) : Calls Tryz.prog 84 #[] w fun e w' => e = .returned (.agg #[vI vU (wd (Pt.pp) 0),vI vU (wd (Pt.pp) 1),vI vU (wd (Pt.pp) 2),vI vU (wd (Pt.pp) 3)]) ∧ Below w.heap.size w w' :=
 way1 Tryz.func84 [] (.ret _ fun _ h => ⟨rfl,h⟩) (by kernel_rfl)
theorem rb_calls (w : World) : Calls Tryz.prog 87 #[] w fun e w' => e = .returned (.agg #[vI vU (wd (Pt.bb) 0),vI vU (wd (Pt.bb) 1),vI vU (wd (Pt.bb) 2),vI vU (wd (Pt.bb) 3)]) ∧ Below w.heap.size w w' :=
 way1 Tryz.func87 [] (.ret _ fun _ h => ⟨rfl,h⟩) (by kernel_rfl)
/-! ### points: values,rows,'==' -/
def pc (X Y : Nat) (f : Bool) (j : Nat) : Value:=if j < 4 then .int .u64 (wd X j) else if j < 8 then .int .u64 (wd Y (j - 4)) else .bool f
theorem lits_word (X i : Nat) (D : Nat) : Tryz.prog.keyLits (D + 1) 27 [.int .u64 (wd X i)] = some [.int .u64 (wd X i)]:=by
 have h0:=wd_lo X i
 have h1:=wd_le X i
 have hw : (Lit.int .u64 (wd X i)).wf = true:=by
  simp only [Lit.wf,Bool.and_eq_true,decide_eq_true_eq]
  have e1 : IntKind.u64.min = 0:=rfl
  have e2 : IntKind.u64.max = 18446744073709551615:=rfl
  omega
 simp [Program.keyLits,Tryz.underlying27,hw]
theorem cells_word : Tryz.prog.cellsOf 27 = 1:=by kernel_rfl
theorem zhq : Tryz.prog.cellsOf 29 = 4:=by kernel_rfl
theorem zjw : Tryz.prog.cellsOf 44 = 9:=by kernel_rfl
theorem cells_bool : Tryz.prog.cellsOf 4 = 1:=by kernel_rfl
theorem lits_num (X : Nat) (D : Nat) : Tryz.prog.keyLits (D + 2) 29 [.int .u64 (wd X 0),.int .u64 (wd X 1),.int .u64 (wd X 2),.int .u64 (wd X 3)] = some [.int .u64 (wd X 0),.int .u64 (wd X 1),.int .u64 (wd X 2),.int .u64 (wd X 3)]:=by
 unfold Program.keyLits
 simp [Tryz.underlying29,zhq,cells_word,List.range_succ,lits_word]
theorem lits_bool (f : Bool) (D : Nat) : Tryz.prog.keyLits (D + 2) 4 [.bool f] = some [.bool f]:=by
 unfold Program.keyLits
 simp [Tryz.underlying4]
theorem lits_pt (X Y : Nat) (f : Bool) (D : Nat) : Tryz.prog.keyLits (D + 3) 44 (#[vI vU (wd X 0),vI vU (wd X 1),vI vU (wd X 2),vI vU (wd X 3),vI vU (wd Y 0),vI vU (wd Y 1),vI vU (wd Y 2),vI vU (wd Y 3),.bool (f)] : Array Value).toList = some [.int .u64 (wd X 0),.int .u64 (wd X 1),.int .u64 (wd X 2),.int .u64 (wd X 3),.int .u64 (wd Y 0),.int .u64 (wd Y 1),.int .u64 (wd Y 2),.int .u64 (wd Y 3),.bool f]:=by
 unfold Program.keyLits
 simp [Tryz.underlying44,zjw,zhq,cells_bool,lits_num,lits_bool]
theorem wd_inj {X Y : Nat} (hX : X < top) (hY : Y < top) (h0 : wd X 0 = wd Y 0) (h1 : wd X 1 = wd Y 1) (h2 : wd X 2 = wd Y 2) (h3 : wd X 3 = wd Y 3) : X = Y:=by
 have h:=(all_wd 4 X Y).symm
 have ha : ((List.range 4).all fun i => wd X i == wd Y i) = true:=by
  simp [List.range_succ,h0,h1,h2,h3]
 rw [ha] at h
 have h5:=of_decide_eq_true h
 rw [Nat.mod_eq_of_lt (show X < w64 ^ 4 from hX),Nat.mod_eq_of_lt (show Y < w64 ^ 4 from hY)] at h5
 exact h5
theorem eql_pt {X Y X' Y' : Nat} (hX : X < top) (hY : Y < top) (hX' : X' < top) (hY' : Y' < top) (f f' : Bool) (w : World) : (binOp .eql 44 (.agg #[vI vU (wd X 0),vI vU (wd X 1),vI vU (wd X 2),vI vU (wd X 3),vI vU (wd Y 0),vI vU (wd Y 1),vI vU (wd Y 2),vI vU (wd Y 3),.bool (f)]) (.agg #[vI vU (wd (X') 0),vI vU (wd (X') 1),vI vU (wd (X') 2),vI vU (wd (X') 3),vI vU (wd (Y') 0),vI vU (wd (Y') 1),vI vU (wd (Y') 2),vI vU (wd (Y') 3),.bool (f')])).run Tryz.prog w = .ok (.bool (decide (X = X' ∧ Y = Y' ∧ f = f'))) w:=by
 rw [run_eql_struct]
 obtain ⟨r,hr,hiff⟩:=run_equalIn_deep (P:=Tryz.prog) 9990 10 44 (by kernel_rfl) w 10000 10000 (.agg #[vI vU (wd X 0),vI vU (wd X 1),vI vU (wd X 2),vI vU (wd X 3),vI vU (wd Y 0),vI vU (wd Y 1),vI vU (wd Y 2),vI vU (wd Y 3),.bool (f)]) (.agg #[vI vU (wd (X') 0),vI vU (wd (X') 1),vI vU (wd (X') 2),vI vU (wd (X') 3),vI vU (wd (Y') 0),vI vU (wd (Y') 1),vI vU (wd (Y') 2),vI vU (wd (Y') 3),.bool (f')]) _ _ (by simp [Value.formed,Tryz.underlying44,zjw]) (by simp [Value.formed,Tryz.underlying44,zjw]) (lits_pt X Y f 9997) (lits_pt X' Y' f' 9997)
 rw [hr,Result.andThen_ok]
 congr 2
 have hd : r = true ↔ (X = X' ∧ Y = Y' ∧ f = f'):=by
  rw [hiff]
  simp only [List.cons.injEq,Lit.int.injEq,Lit.bool.injEq,true_and,and_true]
  constructor
  ·
   rintro ⟨a0,a1,a2,a3,b0,b1,b2,b3,c⟩
   exact ⟨wd_inj hX hX' a0 a1 a2 a3,wd_inj hY hY' b0 b1 b2 b3,c⟩
  ·
   rintro ⟨rfl,rfl,rfl⟩
   exact ⟨rfl,rfl,rfl,rfl,rfl,rfl,rfl,rfl,rfl⟩
 cases r with
 | true => exact (decide_eq_true (hd.1 rfl)).symm
 | false => exact (decide_eq_false fun h => by have:=hd.2 h; cases this).symm
end Go.Proofs.YtihophdbkjhopaaGreatDoor
namespace Go.Proofs.YtihophdbkjhopaaGreatDoor
open Go.RowKit
open Go.Value renaming int → vI
open Go.IntKind renaming u64 → vU
open Go.Act renaming put → aP
open List renaming setIfInBounds_toArray → lA, set_cons_zero → lZ, set_cons_succ → lS
theorem eqT {X Y : Nat} {f : Bool} (hX : X < top) (hY : Y < top) (W : World) : (binOp .eql 44 (qv X Y f) (qv X Y f)).run Tryz.prog W = .ok (.bool true) W:=by
 have e:=eql_pt hX hY hX hY f f W
 rw [decide_eq_true ⟨rfl,rfl,rfl⟩] at e
 exact e
theorem gT (X Y X' Y' : Nat) (f f' : Bool) (op : BinOp) (x y : Operand) (W : World) : (eqGuard op 44 x y (qv X Y f) (qv X' Y' f')).run Tryz.prog W = .ok () W:=by
 unfold qv qc
 cases op <;> simp [eqGuard,go_sem]
theorem made_eqn {o : Oper} {a : Act} {w : World} {x y : Operand} {X Y : Nat} (ho : o.op = .binOp .eql 29 x y 29) (hx : a.eval x = nv X) (hy : a.eval y = nv Y) (lX : X < top) (lY : Y < top) : Made Tryz.prog o (.bool (decide (X = Y))) a w:=zbi fun W _ => by
 have k:=zgd lX lY W
 unfold execOp
 simp only [ho]
 generalize a.eval = ρ at *
 rw [hx,hy]
 unfold nv nc at *
 have hg : (eqGuard .eql 29 x y (.agg #[vI vU (wd X 0),vI vU (wd X 1),vI vU (wd X 2),vI vU (wd X 3)]) (.agg #[vI vU (wd Y 0),vI vU (wd Y 1),vI vU (wd Y 2),vI vU (wd Y 3)])).run Tryz.prog W = .ok () W:=by simp [eqGuard,go_sem]
 simp only [Sem.run_bind,hg,Result.andThen_ok,k,Sem.run_pure]
end Go.Proofs.YtihophdbkjhopaaGreatDoor
namespace Go.Proofs.YtihophdbkjhopaaGreatDoor
open Go.RowKit
open Go.Value renaming int → vI
open Go.IntKind renaming u64 → vU
open Go.Act renaming put → aP
open List renaming setIfInBounds_toArray → lA, set_cons_zero → lZ, set_cons_succ → lS
def gc (r s : Nat) : Array Value:=#[vI vU (wd r 0),vI vU (wd r 1),vI vU (wd r 2),vI vU (wd r 3),vI vU (wd s 0),vI vU (wd s 1),vI vU (wd s 2),vI vU (wd s 3)]
def gv (r s : Nat) : Value:=.agg (gc r s)
theorem zeu (r s : Nat) : (gc r s).all (·.oneCell') = true:=by simp [gc,Value.oneCell']
theorem iSg (r s : Nat) : (Tryz.prog.info? 46).map (·.size) = some (gc r s).size:=by kernel_rfl
def dgc (y : Nat → Nat) : Array Value:=arrOf 32 fun i => .int .u8 (y i : Nat)
def dgv (y : Nat → Nat) : Value:=.agg (dgc y)
theorem infoD32 : (Tryz.prog.info? 23).map (·.size) = some 32:=by kernel_rfl
theorem iDg (y : Nat → Nat) : (Tryz.prog.info? 23).map (·.size) = some (dgc y).size:=by
 unfold dgc
 rw [zam]; exact infoD32
section
variable (g : Nat) (W : World)
theorem fldG0 : (Instr.fieldAt 46 (ptrTo g) 0).run Tryz.prog W = .ok (.pointer (some ⟨g,0,none⟩)) W:=by simp [Instr.fieldAt,go_sem]
theorem fldG1 : (Instr.fieldAt 46 (ptrTo g) 1).run Tryz.prog W = .ok (.pointer (some ⟨g,4,none⟩)) W:=by simp [Instr.fieldAt,go_sem]
theorem bldG (r s : Nat) : (Instr.build 46 [(0,nv r),(1,nv s)].toArray).run Tryz.prog W = .ok (gv r s) W:=by simp [Instr.build,go_sem,nv,nc,gv,gc]
theorem sliceD : (Instr.sliceAt 23 (ptrTo g) none none none).run Tryz.prog W = .ok (.slice (some ⟨g,0,none⟩) 32 32) W:=by kernel_rfl
end
end Go.Proofs.YtihophdbkjhopaaGreatDoor
namespace Go.Proofs.YtihophdbkjhopaaGreatDoor
open Go.RowKit
open Go.Value renaming int → vI
open Go.IntKind renaming u64 → vU
open Go.Act renaming put → aP
open List renaming setIfInBounds_toArray → lA, set_cons_zero → lZ, set_cons_succ → lS
structure Low where
 dg : List Nat → Nat → Nat
 dgb : ∀ bs j,dg bs j < 256
 vf : Nat → Nat → Bool → (Nat → Nat) → Nat → Nat → Bool
structure LowR (L : Low) : Prop where
 bytes : ∀ r s w,Calls Tryz.prog 55 #[gv r s] w fun e w' => ∃ A c,e = .returned (.slice A 64 c) ∧ 64 ≤ c ∧ Bs w' A (sigB r s) ∧ Fresh w A (sigB r s) ∧ Ext w w'
 num : ∀ A m c bs w,m = bs.length → m = 32 → Bs w A bs → Calls Tryz.prog 75 #[.slice A m c] w fun e w' => e = .returned (nv (valB bs)) ∧ Ext w w'
 sum : ∀ A m c bs w,m = bs.length → m ≤ 100000 → Bs w A bs → Calls Tryz.prog 36 #[.slice A m c] w fun e w' => e = .returned (dgv (L.dg bs)) ∧ Ext w w'
 ver : ∀ X Y f y R S w,X < top → Y < top → R < top → S < top → (∀ j,y j < 256) → Calls Tryz.prog 19 #[qv X Y f,dgv y,gv R S] w fun e w' => e = .returned (.bool (L.vf X Y f y R S)) ∧ Ext w w'
end Go.Proofs.YtihophdbkjhopaaGreatDoor
namespace Go.Proofs.YtihophdbkjhopaaGreatDoor
open Go.RowKit
open Go.Value renaming int → vI
open Go.IntKind renaming u64 → vU
open Go.Act renaming put → aP
open List renaming setIfInBounds_toArray → lA, set_cons_zero → lZ, set_cons_succ → lS
theorem zda {P : Program} {fn : Func} {q p s : Tmp} {ty : TypeId} (h : fn.results = #[.tmp q,.cell p ty,.tmp s]) (tmps : Array Value) (w : World) (g : Nat) (t : TypeId) (cs : Array Value) (fr : Nat × Nat) (d : TypeDesc)
  (hp : tmps.getD p undef = .pointer (some ⟨g,0,none⟩)) (hg : w.heap[g]? = some (.cells cs t fr)) (hu : P.underlying ty = some d) (hd : d.isRow = true) (hi : (P.info? ty).map (·.size) = some cs.size) :
  (results fn tmps).run P w = .ok (.tuple #[tmps.getD q undef,.agg cs,tmps.getD s undef]) w:=by
 have hp' : tmps[p]?.getD undef = .pointer (some ⟨g,0,none⟩):=by simpa using hp
 have hl : (loadVar ty ⟨g,0,none⟩).run P w = .ok (.agg cs) w:=run_loadVar_mid w g 0 ty cs.toList d (fun j v hv => by rw [cell_of_row w g (0 + j) cs t fr hg,Nat.zero_add]; simpa using hv) hu hd (by simpa using hi)
 simp [results,h,hp',asAddr,hl]
def Z8 : Array Value:=#[vI vU 0,vI vU 0,vI vU 0,vI vU 0,vI vU 0,vI vU 0,vI vU 0,vI vU 0]
theorem z8_gc : Z8 = gc 0 0:=by
 obtain ⟨h0,h1,h2,h3⟩:=wd_z
 unfold gc Z8
 rw [h0,h1,h2,h3]
theorem iZ8 : (Tryz.prog.info? 46).map (·.size) = some Z8.size:=by kernel_rfl
theorem zcq : Z8.all (·.oneCell') = true:=by simp [Z8,Value.oneCell']
theorem off_z8 {w : World} {A : Option Addr} {bs : List Nat} {g : Nat} {fr : Nat × Nat} (h : Bs w A bs) (hg : w.heap[g]? = some (.cells Z8 46 fr)) : Off A bs (some g):=by
 by_cases h0 : bs.length = 0
 ·
  exact .inl h0
 ·
  refine .inr fun b o e e2 => ?_
  obtain ⟨b',o',e',_,hc⟩:=h.cell (j:=0) (by omega)
  rw [e] at e'
  injection e' with e'
  injection e' with e3 e4
  have e5 : g = b:=by injection e2
  subst e3 e4 e5
  rw [cell_of_row w g _ _ _ _ hg] at hc
  unfold Z8 at hc
  simp only [Nat.add_zero] at hc
  match o,hc with
  | 0,hc => simp at hc
  | 1,hc => simp at hc
  | 2,hc => simp at hc
  | 3,hc => simp at hc
  | 4,hc => simp at hc
  | 5,hc => simp at hc
  | 6,hc => simp at hc
  | 7,hc => simp at hc
  | n + 8,hc => simp at hc
def PartsA (w' : World) (bs : List Nat) (x y : Value) (G : Array Value) : Prop :=
 (partsB bs = none ∧ x = .slice none 0 0 ∧ G = gc 0 0 ∧ y = .bool false) ∨
 (∃ body r s,partsB bs = some (body,r,s) ∧ (∃ A c,x = .slice A body.length c ∧ body.length ≤ c ∧ Bs w' A body) ∧ G = gc r s ∧ y = .bool true)
theorem partsB_get {bs : List Nat} {fs : List Fd} (h : getFs bs = some fs) : partsB bs = if twoOk fs then some (bsF fs 0,sigR (bsF fs 1),sigS (bsF fs 1)) else none:=by
 unfold partsB
 rw [h]
theorem zhz {P : Program} {o : Oper} {a : Act} {ty : TypeId} {x : Operand} {g t : Nat} {cs : Array Value} {fr : Nat × Nat} {d : TypeDesc} {W : World} (ho : o.op = .load ty x) (hx : a.eval x = .pointer (some ⟨g,0,none⟩)) (hb : W.heap[g]? = some (.cells cs t fr))
  (hu : P.underlying ty = some d) (hd : d.isRow = true) (hi : (P.info? ty).map (·.size) = some cs.size) : (execOp a.eval o).run P W = .ok (.value (.agg cs)) W:=by
 have hl : (loadVar ty ⟨g,0,none⟩).run P W = .ok (.agg cs) W:=run_loadVar_mid W g 0 ty cs.toList d (fun j v hv => by rw [cell_of_row W g (0 + j) cs t fr hb,Nat.zero_add]; simpa using hv) hu hd (by simpa using hi)
 unfold execOp
 simp only [ho,hx,Instr.loadAt,Instr.sureAddr,Sem.run_bind,Sem.run_pure,Result.andThen_ok,hl]
theorem run_build_v {P : Program} {o : Oper} {a : Act} {ty : TypeId} {parts : List (Nat × Operand)} {vs : List (Nat × Value)} {v : Value} {W : World} (ho : o.op = .build ty parts.toArray) (hx : parts.map (fun p => (p.1,a.eval p.2)) = vs)
  (hb : (Instr.build ty vs.toArray).run P W = .ok v W) : (execOp a.eval o).run P W = .ok (.value v) W:=by
 unfold execOp
 simp only [ho,List.map_toArray]
 rw [show (parts.map fun x => match x with | (i,x) => (i,a.eval x)) = vs from hx]
 simp only [Sem.run_bind,hb,Result.andThen_ok,Sem.run_pure]
theorem sched_store {P : Program} {Q : Exit → Act → World → Prop} {l : List Oper} {n k : Nat} {r : Sched} {a : Act} {w : World} {ty t : TypeId} {x y : Operand} {g : Nat} {cells old : Array Value} (o : Oper) (ho : l[k]? = some o) (hg : o.guard = none) (hop : o.op = .store ty x y) (hd : o.dst = none) (hkn : ¬ k < n)
  (hx : a.eval x = ptrTo g) (hy : a.eval y = .agg cells) (hb : w.heap[g]? = some (.cells old t (0,0))) (hi : (P.info? ty).map (·.size) = some cells.size) (hold : old.size = cells.size) (h1 : cells.all (·.oneCell') = true)
  (h : ∀ W,But g w W → W.heap[g]? = some (.cells cells t (0,0)) → wpSched P l Q n r a W) : wpSched P l Q n ((false,[k]) :: r) a w:=by
 refine zcy o ho hg fun W hW => wp_store_row ty x y hop g cells hx hy t old (hW.block hb) hi hold h1 ⟨fun h => absurd h hkn,?_⟩
 rw [hd]
 exact h _ (but_setRow (but_ext hW) cells) (setRow_heap W g old cells t (0,0) (hW.block hb))
theorem Up.block {w : World} {D : World → Prop} (h : Up w D) {g : Nat} {o : Obj} (hb : w.heap[g]? = some o) (x : Gw D) : x.val.heap[g]? = some o:=(h.grown _ x.property).block hb
theorem run_slice_lv {P : Program} {o : Oper} {a : Act} {t : TypeId} {x z : Operand} {v v' vz : Value} {W : World} (ho : o.op = .slice t x (some z) none none) (hx : a.eval x = v) (hz : a.eval z = vz)
  (h : (Instr.sliceAt t v (some vz) none none).run P W = .ok v' W) : (execOp a.eval o).run P W = .ok (.value v') W:=by
 unfold execOp
 simp only [ho,hx,hz,Option.map_some,Option.map_none,Sem.run_bind,h,Result.andThen_ok,Sem.run_pure]
theorem rparts9_calls {L : Low} (R : LowR L) (A : Option Addr) (m c : Nat) (bs : List Nat) (hm : m = bs.length) (hmc : m ≤ c) (hle : m ≤ 100000000) (w : World) (hS : Bs w A bs) :
  Calls Tryz.prog 40 #[.slice A m c] w fun e w' => ∃ x G y,e = .returned (.tuple #[x,.agg G,y]) ∧ Ext w w' ∧ PartsA w' bs x y G:=by
 have hzz : (w.alloc (.cells #[vI vU 0,vI vU 0,vI vU 0,vI vU 0,vI vU 0,vI vU 0,vI vU 0,vI vU 0] 46)).heap[w.heap.size]? = some (.cells #[vI vU 0,vI vU 0,vI vU 0,vI vU 0,vI vU 0,vI vU 0,vI vU 0,vI vU 0] 46 (0,0)):=zac w _
 have hE0:=Ext.alloc w (.cells #[vI vU 0,vI vU 0,vI vU 0,vI vU 0,vI vU 0,vI vU 0,vI vU 0,vI vU 0] 46)
 have KG:=veil (fun W hW => rget8_any A m c bs hm hmc hle W hW)
 have HW:=veil (And.intro hzz (And.intro hE0 (hS.ext hE0)))
 clear hzz hE0 hm hmc hle hS
 go_enter Tryz.func40,Tryz.ntmps40
 go_upto_region 1 with (fail)
 generalize w.alloc (.cells #[vI vU 0,vI vU 0,vI vU 0,vI vU 0,vI vU 0,vI vU 0,vI vU 0,vI vU 0] 46) = w0 at *
 go_upto_region 2 with (go_at_call 41; refine (KG.out w0 HW.out.2.2).mono ?_; rintro e w1 ⟨x,y,rfl,hE1,hA⟩)
 have H1:=veil (And.intro (hE1.block HW.out.1) (HW.out.2.1.trans hE1))
 clear hE1
 rcases hA with ⟨hn,rfl,rfl⟩ | ⟨fs,hs,hF,rfl⟩
 ·
  have hr : partsB bs = none:=by
   unfold partsB
   rw [hn]
  clear KG
  go_wp2_with (first
   | ((with_reducible refine zah ?_); refine wpList_store_row rfl 46 _ _ rfl w.heap.size Z8 rfl rfl 46 _ H1.out.1 iZ8 rfl zcq ?_))
  refine bodyPost_ret (zda rfl _ _ w.heap.size 46 Z8 (0,0) _ rfl (setRow_heap w1 w.heap.size _ Z8 46 (0,0) H1.out.1) Tryz.underlying46 rfl iZ8) rfl ⟨_,_,_,rfl,zan H1.out.2 (Nat.le_refl _) _,.inl ⟨hr,rfl,z8_gc,rfl⟩⟩
 ·
  have hpb:=partsB_get hs
  obtain ⟨hB,AL,cl,rfl,hcl,hx⟩:=hF
  obtain ⟨q,hq⟩ : ∃ q,q = fs.length:=⟨_,rfl⟩
  rw [← hq] at hx hcl ⊢
  have HX:=veil (And.intro hx (And.intro hq hpb))
  clear KG hx hq hpb hs hB hcl
  by_cases g0 : q = 2
  ·
   have hqI : decide ((q : Int) = 2) = true:=by simp; omega
   have HQ:=veil g0
   obtain ⟨b,o,hAL,hb,hcl⟩:=HX.out.1.resolve_left (by omega)
   obtain ⟨h1,A0,k0,h2,h3,h4⟩:=hcl 0 (by omega)
   obtain ⟨j1,A1,k1,j2,j3,j4⟩:=hcl 1 (by omega)
   have c0 : w1.cell? ⟨b,o,none⟩ = some (.int .i64 (tgF fs 0)):=h1
   have c1 : w1.cell? ⟨b,o + 1,none⟩ = some (.slice A0 (bsF fs 0).length k0):=h2
   have d0 : w1.cell? ⟨b,o + 2,none⟩ = some (.int .i64 (tgF fs 1)):=j1
   have d1 : w1.cell? ⟨b,o + 3,none⟩ = some (.slice A1 (bsF fs 1).length k1):=j2
   obtain ⟨T0,hT0⟩ : ∃ T,T = tgF fs 0:=⟨_,rfl⟩
   obtain ⟨T1,hT1⟩ : ∃ T,T = tgF fs 1:=⟨_,rfl⟩
   obtain ⟨L0,hL0⟩ : ∃ L,L = (bsF fs 0).length:=⟨_,rfl⟩
   obtain ⟨L1,hL1⟩ : ∃ L,L = (bsF fs 1).length:=⟨_,rfl⟩
   rw [← hT0] at c0
   rw [← hT1] at d0
   rw [← hL0] at c1
   rw [← hL1] at d1
   have HT:=veil (And.intro hT0 (And.intro hT1 (And.intro hL0 hL1)))
   have HB:=veil (And.intro h3 (And.intro h4 (And.intro j3 j4)))
   have hno : ¬ (T0 = 1 ∧ T1 = 2 ∧ L1 = 64) → partsB bs = none:=fun h => by
    rw [HX.out.2.2,if_neg]
    intro hk
    refine h ⟨?_,?_,?_⟩
    ·
     rw [HT.out.1]; exact hk.2.1
    ·
     rw [HT.out.2.1]; exact hk.2.2.1
    ·
     rw [HT.out.2.2.2]; exact hk.2.2.2
   have HNO:=veil hno
   subst hAL
   subst g0
   clear h1 h2 h3 h4 j1 j2 j3 j4 hT0 hT1 hL0 hL1 hcl hno hqI
   by_cases g1 : T0 = 1
   ·
    have f1 : (T0 == 1) = true:=by simp [g1]
    by_cases g2 : T1 = 2
    ·
     have f2 : (T1 == 2) = true:=by simp [g2]
     by_cases g3 : L1 = 64
     ·
      have HG:=veil (And.intro g1 (And.intro g2 g3))
      subst g1 g2 g3
      have hk1 : 64 ≤ k1:=by have h:=HB.out.2.2.1; have h2:=HT.out.2.2.2; omega
      obtain ⟨D1,hD1⟩ : ∃ D,D = bsF fs 1:=⟨_,rfl⟩
      have HD:=veil (And.intro hD1 (And.intro (show D1.length = 64 from by rw [hD1]; exact HT.out.2.2.2.symm) (show Bs w1 A1 D1 from by rw [hD1]; exact HB.out.2.2.2)))
      have htd : (D1.drop 32).take 32 = D1.drop 32:=List.take_of_length_le (by rw [List.length_drop,HD.out.2.1]; decide)
      have HTD:=veil htd
      clear hD1 htd f1 f2
      have KR:=veil (fun W (hW : Bs W A1 D1) => R.num A1 32 k1 (D1.take 32) W (by rw [List.length_take,HD.out.2.1]; rfl) rfl (bs_take hW 32))
      have KS:=veil (fun W (hW : Bs W A1 D1) => by
       have h:=R.num (cutA A1 32 k1) 32 (k1 - 32) ((D1.drop 32).take 32) W (by rw [List.length_take,List.length_drop,HD.out.2.1]; rfl) rfl (hW.cut 32 (n:=32) (c:=k1) (by rw [HD.out.2.1]; exact Nat.le_refl _) (by rw [HD.out.2.1]; exact hk1))
       rw [HTD.out] at h
       exact h)
      have hk32 : 32 ≤ k1:=by omega
      go_upto_region 5 with (first
       | ((with_reducible refine zaa 48 ?_); refine zit (.slice A1 32 k1) rfl (run_slice_hv rfl rfl rfl (cut_to_b A1 _ k1 32 hk32 _ rfl)) ?_)
       | (go_at_call 75; refine (KR.out _ HD.out.2.2).mono ?_; rintro e w2 ⟨rfl,hE2⟩)
       | ((with_reducible refine zah ?_); refine wpList_store_row rfl 29 _ _ rfl w2.heap.size (nc (valB (D1.take 32))) rfl rfl 29 _ (zac w2 _) (iN _) rfl (nc_one _) ?_; rw [World.setRow_alloc_new]))
      obtain ⟨g7,hg7⟩ : ∃ g,g = w2.heap.size:=⟨_,rfl⟩
      have hW3 : Ext w1 (w2.alloc (.cells (nc (valB (D1.take 32))) 29)):=hE2.trans (Ext.alloc _ _)
      have hb7 : (w2.alloc (.cells (nc (valB (D1.take 32))) 29)).heap[g7]? = some (.cells (nc (valB (D1.take 32))) 29 (0,0)):=by rw [hg7]; exact zac _ _
      rw [← hg7]
      generalize w2.alloc (.cells (nc (valB (D1.take 32))) 29) = w3 at *
      have c0':=(hW3.cell hb).trans c0
      have c1':=(hW3.cell hb).trans c1
      have d0':=(hW3.cell hb).trans d0
      have d1':=(hW3.cell hb).trans d1
      have hb3:=Nat.lt_of_lt_of_le hb hW3.size
      have HB7:=veil (And.intro hb7 hW3)
      clear c0 c1 d0 d1 hb hg7 hb7 hE2 KR
      go_upto_region 6 with (first
       | ((with_reducible refine zaa 54 ?_); refine zit (.slice (cutA A1 32 k1) 32 (k1 - 32)) rfl (run_slice_lv rfl rfl rfl (cut_from A1 64 k1 32 (by decide) _)) ?_)
       | (go_at_call 75; refine (KS.out _ (HD.out.2.2.ext HB7.out.2)).mono ?_; rintro e w4 ⟨rfl,hE4⟩)
       | ((with_reducible refine zah ?_); refine wpList_store_row rfl 29 _ _ rfl w4.heap.size (nc (valB (D1.drop 32))) rfl rfl 29 _ (zac w4 _) (iN _) rfl (nc_one _) ?_; rw [World.setRow_alloc_new]))
      obtain ⟨g8,hg8⟩ : ∃ g,g = w4.heap.size:=⟨_,rfl⟩
      have hW5 : Ext w3 (w4.alloc (.cells (nc (valB (D1.drop 32))) 29)):=hE4.trans (Ext.alloc _ _)
      have hb8 : (w4.alloc (.cells (nc (valB (D1.drop 32))) 29)).heap[g8]? = some (.cells (nc (valB (D1.drop 32))) 29 (0,0)):=by rw [hg8]; exact zac _ _
      rw [← hg8]
      generalize w4.alloc (.cells (nc (valB (D1.drop 32))) 29) = w5 at *
      have c0:=(hW5.cell hb3).trans c0'
      have c1:=(hW5.cell hb3).trans c1'
      have hb5:=Nat.lt_of_lt_of_le hb3 hW5.size
      have H5:=veil (And.intro (hW5.block HB7.out.1) (And.intro hb8 (And.intro (hW5.block (HB7.out.2.block H1.out.1)) (And.intro (H1.out.2.trans (HB7.out.2.trans hW5)) (HB7.out.2.trans hW5)))))
      clear c0' c1' d0' d1' hb3 hg8 hb8 hE4 KS HB7 hW5 hW3
      simp only [Act.put]
      refine zej 8 [(true,[0,1,2,3,4,5,6,7]),(false,[8]),(false,[9])] (by kernel_rfl) (by kernel_rfl) fun Q' hQ' => ?_
      refine' zby (A:=_) _ rfl (by kernel_rfl) ?_ ?_
      rotate_left
      ·
       intro D hD hN
       have e0:=hD.cell c0
       have e1:=hD.cell c1
       simp only [pickI,consO,List.getElem?_cons_zero,List.getElem?_cons_succ]
       iterate 4 (go_big_quiet_step (fail))
       go_big_quiet_want
       refine zdn (nv (valB (D1.take 32))) (fun x => zhz rfl rfl (hD.block H5.out.1 x) Tryz.underlying29 rfl (iN _)) ?_
       simp only [aP,lA,lZ,lS]
       go_big_quiet_on
       go_big_quiet_want
       refine zdn (nv (valB (D1.drop 32))) (fun x => zhz rfl rfl (hD.block H5.out.2.1 x) Tryz.underlying29 rfl (iN _)) ?_
       simp only [aP,lA,lZ,lS]
       go_big_quiet_on
       go_big_quiet_want
       refine zdn (gv (valB (D1.take 32)) (valB (D1.drop 32))) (fun x => run_build_v (vs:=[(0,nv (valB (D1.take 32))),(1,nv (valB (D1.drop 32)))]) rfl rfl (bldG x.val _ _)) ?_
       simp only [aP,lA,lZ,lS]
       go_big_quiet_on
       go_big_quiet_step (fail)
       exact zct
      refine sched_store (cells:=gc (valB (D1.take 32)) (valB (D1.drop 32))) _ rfl rfl rfl rfl (by decide) rfl rfl H5.out.2.2.1 (iSg _ _) rfl (zeu _ _) ?_
      intro w6 hB6 hb6
      refine zde (.bool true) _ rfl rfl rfl rfl rfl ?_
      intro w7 hE7
      simp only [aP,lA,lZ,lS]
      refine zdm hQ' fun w8 hE8 => ?_
      have hr : partsB bs = some (bsF fs 0,valB (D1.take 32),valB (D1.drop 32)):=by
       rw [HX.out.2.2,if_pos ⟨HX.out.2.1.symm,HT.out.1.symm,HT.out.2.1.symm,HT.out.2.2.2.symm⟩,HD.out.1]
       rfl
      have hB0 : Bs w5 A0 (bsF fs 0):=HB.out.2.1.ext H5.out.2.2.2.2
      have hE6 : Ext w w6:=Below.trans H5.out.2.2.2.1 (hB6.new (Nat.le_refl _) (Below.size H5.out.2.2.2.1))
      have hB8:=((hB0.but hB6 (off_z8 hB0 H5.out.2.2.1)).ext hE7).ext hE8
      have hF:=veil (And.intro (((hE7.trans hE8)).block hb6) (And.intro hr (And.intro hB8 (hE6.trans (hE7.trans hE8)))))
      have hL0:=HT.out.2.2.1
      have hk0:=HB.out.1
      rw [← hL0] at hk0
      clear hr hB0 hE6 hB8 hb6 hB6
      go_wp2
      refine bodyPost_ret (zda rfl _ _ w.heap.size 46 (gc (valB (D1.take 32)) (valB (D1.drop 32))) (0,0) _ rfl hF.out.1 Tryz.underlying46 rfl (iSg _ _)) rfl ⟨_,_,_,rfl,hF.out.2.2.2,.inr ⟨_,_,_,hF.out.2.1,⟨A0,k0,by rw [← hL0]; rfl,by rw [← hL0]; exact hk0,hF.out.2.2.1⟩,rfl,rfl⟩⟩
     ·
      have hr:=HNO.out (fun h => g3 h.2.2)
      have f3 : ((L1 : Int) == 64) = false:=by simp; omega
      have f4 : ¬ ((L1 : Int) = 64):=by omega
      go_wp2_with (first
       | ((with_reducible refine zah ?_); refine wpList_store_row rfl 46 _ _ rfl w.heap.size Z8 rfl rfl 46 _ H1.out.1 iZ8 rfl zcq ?_))
      refine bodyPost_ret (zda rfl _ _ w.heap.size 46 Z8 (0,0) _ rfl (setRow_heap w1 w.heap.size _ Z8 46 (0,0) H1.out.1) Tryz.underlying46 rfl iZ8) rfl ⟨_,_,_,rfl,zan H1.out.2 (Nat.le_refl _) _,.inl ⟨hr,rfl,z8_gc,rfl⟩⟩
    ·
     have hr:=HNO.out (fun h => g2 h.2.1)
     have f2 : (T1 == 2) = false:=by simp [g2]
     go_wp2_with (first
      | ((with_reducible refine zah ?_); refine wpList_store_row rfl 46 _ _ rfl w.heap.size Z8 rfl rfl 46 _ H1.out.1 iZ8 rfl zcq ?_))
     refine bodyPost_ret (zda rfl _ _ w.heap.size 46 Z8 (0,0) _ rfl (setRow_heap w1 w.heap.size _ Z8 46 (0,0) H1.out.1) Tryz.underlying46 rfl iZ8) rfl ⟨_,_,_,rfl,zan H1.out.2 (Nat.le_refl _) _,.inl ⟨hr,rfl,z8_gc,rfl⟩⟩
   ·
    have hr:=HNO.out (fun h => g1 h.1)
    have f1 : (T0 == 1) = false:=by simp [g1]
    go_wp2_with (first
     | ((with_reducible refine zah ?_); refine wpList_store_row rfl 46 _ _ rfl w.heap.size Z8 rfl rfl 46 _ H1.out.1 iZ8 rfl zcq ?_))
    refine bodyPost_ret (zda rfl _ _ w.heap.size 46 Z8 (0,0) _ rfl (setRow_heap w1 w.heap.size _ Z8 46 (0,0) H1.out.1) Tryz.underlying46 rfl iZ8) rfl ⟨_,_,_,rfl,zan H1.out.2 (Nat.le_refl _) _,.inl ⟨hr,rfl,z8_gc,rfl⟩⟩
  ·
   have f0 : ((q : Int) == 2) = false:=by simp; omega
   have f1 : ¬ ((q : Int) = 2):=by omega
   have hr : partsB bs = none:=by
    rw [HX.out.2.2,if_neg]
    intro h
    exact g0 (HX.out.2.1.trans h.1)
   clear HX
   go_wp2_with (first
    | ((with_reducible refine zah ?_); refine wpList_store_row rfl 46 _ _ rfl w.heap.size Z8 rfl rfl 46 _ H1.out.1 iZ8 rfl zcq ?_))
   refine bodyPost_ret (zda rfl _ _ w.heap.size 46 Z8 (0,0) _ rfl (setRow_heap w1 w.heap.size _ Z8 46 (0,0) H1.out.1) Tryz.underlying46 rfl iZ8) rfl ⟨_,_,_,rfl,zan H1.out.2 (Nat.le_refl _) _,.inl ⟨hr,rfl,z8_gc,rfl⟩⟩
end Go.Proofs.YtihophdbkjhopaaGreatDoor
namespace Go.Proofs.YtihophdbkjhopaaGreatDoor
open Go.RowKit
open Go.Value renaming int → vI
open Go.IntKind renaming u64 → vU
open Go.Act renaming put → aP
open List renaming setIfInBounds_toArray → lA, set_cons_zero → lZ, set_cons_succ → lS
theorem partsA_all {w : World} {bs : List Nat} {x y : Value} {G : Array Value} (hb : Byt bs) (h : PartsA w bs x y G) :
  ∃ r s body A c o,G = gc r s ∧ x = .slice A body.length c ∧ body.length ≤ c ∧ body.length ≤ 65535 ∧ Bs w A body ∧ y = .bool o ∧ ((partsB bs = none ∧ o = false) ∨ (partsB bs = some (body,r,s) ∧ o = true)):=by
 rcases h with ⟨h,rfl,rfl,rfl⟩ | ⟨body,r,s,h,⟨A,c,rfl,hc,hB⟩,rfl,rfl⟩
 ·
  exact ⟨0,0,[],none,0,false,rfl,rfl,Nat.le_refl _,by decide,⟨fun b hb => absurd hb (List.not_mem_nil),Or.inl rfl⟩,rfl,.inl ⟨h,rfl⟩⟩
 ·
  exact ⟨r,s,body,A,c,true,rfl,rfl,hc,(zje hb h).2.2.1,hB,rfl,.inr ⟨h,rfl⟩⟩
theorem zbh {W : World} {g g' t : Nat} {cs : Array Value} (T : Array Value) (h : W.heap[g']? = some (.cells cs t (0,0))) (hg : g < g') : (W.setRow g T).heap[g']? = some (.cells cs t (0,0)):=(zaw W T (by omega)).trans h
theorem two_rows {w W : World} {g g' t t' : Nat} {T G T0 G0 : Array Value} (hE : Ext w W) (h : W.heap[g]? = some (.cells T0 t (0,0))) (h' : W.heap[g']? = some (.cells G0 t' (0,0))) (hg : w.heap.size ≤ g ∧ g < g') :
  Ext w ((W.setRow g T).setRow g' G) ∧ ((W.setRow g T).setRow g' G).heap[g]? = some (.cells T t (0,0)) ∧ ((W.setRow g T).setRow g' G).heap[g']? = some (.cells G t' (0,0)) :=
 ⟨zan (zan hE hg.1 T) (by omega) G,(zaw _ G (by omega)).trans (setRow_heap W g T0 T t (0,0) h),setRow_heap _ g' G0 G t' (0,0) (zbh T h' hg.2)⟩
theorem sched_alloc {P : Program} {Q : Exit → Act → World → Prop} {l : List Oper} {n k d : Nat} {r : Sched} {a : Act} {w : World} {t : TypeId} {C : Array Value} (o : Oper) (ho : l[k]? = some o) (hg : o.guard = none) (hd : o.dst = some d)
  (hb : ∀ W,(execOp a.eval o).run P W = .ok (.value (ptrTo W.heap.size)) (W.alloc (.cells C t)))
  (h : ∀ g W,w.heap.size ≤ g → W.heap[g]? = some (.cells C t (0,0)) → Ext w W → wpSched P l Q n r (a.put (some d) (ptrTo g)) W) : wpSched P l Q n ((false,[k]) :: r) a w:=by
 refine zcy o ho hg fun W hW => ?_
 unfold Oper.wp
 rw [hb W]
 show (k < n → Ext W _) ∧ _
 rw [hd]
 exact ⟨fun _ => Ext.alloc W _,h _ _ (Below.size hW) (zac W _) (hW.trans (Ext.alloc W _))⟩
/-! ### a region that draws its order,order by order -/
section
variable {P : Program} {ops : Array Oper} {Q : Exit → Act → World → Prop} {f j d : Nat} {listed : Array Bool} {a : Act} {w : World}
end
end Go.Proofs.YtihophdbkjhopaaGreatDoor
namespace Go.Proofs.YtihophdbkjhopaaGreatDoor
open Go.RowKit
open Go.Value renaming int → vI
open Go.IntKind renaming u64 → vU
open Go.Act renaming put → aP
open List renaming setIfInBounds_toArray → lA, set_cons_zero → lZ, set_cons_succ → lS
theorem eqNilNil (w : World) : (binOp .eql 33 .nilIface .nilIface).run Tryz.prog w = .ok (.bool true) w:=by kernel_rfl
end Go.Proofs.YtihophdbkjhopaaGreatDoor
namespace Go.Proofs.YtihophdbkjhopaaGreatDoor
open Go.RowKit
open Go.Value renaming int → vI
open Go.IntKind renaming u64 → vU
open Go.Act renaming put → aP
open List renaming setIfInBounds_toArray → lA, set_cons_zero → lZ, set_cons_succ → lS
theorem zdb {P : Program} {fn : Func} {q s : Tmp} {ty : TypeId} (h : fn.results = #[.cell q ty,.tmp s]) (tmps : Array Value) (w : World) (g : Nat) (t : TypeId) (cs : Array Value) (fr : Nat × Nat) (d : TypeDesc)
  (hq : tmps.getD q undef = .pointer (some ⟨g,0,none⟩)) (hg : w.heap[g]? = some (.cells cs t fr)) (hu : P.underlying ty = some d) (hd : d.isRow = true) (hi : (P.info? ty).map (·.size) = some cs.size) :
  (results fn tmps).run P w = .ok (.tuple #[.agg cs,tmps.getD s undef]) w:=by
 have hq' : tmps[q]?.getD undef = .pointer (some ⟨g,0,none⟩):=by simpa using hq
 have hl : (loadVar ty ⟨g,0,none⟩).run P w = .ok (.agg cs) w:=run_loadVar_mid w g 0 ty cs.toList d (fun j v hv => by rw [cell_of_row w g (0 + j) cs t fr hg,Nat.zero_add]; simpa using hv) hu hd (by simpa using hi)
 simp [results,h,hq',asAddr,hl]
theorem ziz (w1 : World) (o o2 : Obj) : ((w1.alloc o).alloc o2).heap[w1.heap.size]? = some o ∧ ((w1.alloc o).alloc o2).heap[w1.heap.size + 1]? = some o2:=by
 have h:=zac (w1.alloc o) o2
 rw [World.size_alloc] at h
 exact ⟨(Ext.alloc (w1.alloc o) o2).block (zac w1 o),h⟩
theorem zft (w1 : World) (o o2 : Obj) : Ext w1 ((w1.alloc o).alloc o2):=(Ext.alloc _ _).trans (Ext.alloc _ _)
end Go.Proofs.YtihophdbkjhopaaGreatDoor
namespace Go.Proofs.YtihophdbkjhopaaGreatDoor
open Go.RowKit
open Go.Value renaming int → vI
open Go.IntKind renaming u64 → vU
open Go.Act renaming put → aP
open List renaming setIfInBounds_toArray → lA, set_cons_zero → lZ, set_cons_succ → lS
structure Chg (F : Nat → Prop) (w w' : World) : Prop where
 os : w'.os = w.os
 tape : w'.tape = w.tape
 output : w'.output = w.output
 size : w.heap.size ≤ w'.heap.size
 block : ∀ k,k < w.heap.size → ¬ F k → w'.heap[k]? = w.heap[k]?
section
variable {F G : Nat → Prop} {a b c w w' : World}
theorem Chg.refl (F : Nat → Prop) (w : World) : Chg F w w:=⟨rfl,rfl,rfl,Nat.le_refl _,fun _ _ _ => rfl⟩
theorem Chg.trans (h : Chg F a b) (k : Chg G b c) (hg : ∀ z,z < a.heap.size → G z → F z) : Chg F a c :=
 ⟨k.os.trans h.os,k.tape.trans h.tape,k.output.trans h.output,Nat.le_trans h.size k.size,fun z hz hn => (k.block z (Nat.lt_of_lt_of_le hz h.size) fun hG => hn (hg z hz hG)).trans (h.block z hz hn)⟩
theorem Chg.of_ext (h : Ext w w') : Chg F w w':=⟨Below.os h,Below.tape h,Below.output h,Below.size h,fun k hk _ => Below.block h k hk⟩
theorem Chg.ext (h : Chg F a b) (k : Ext b c) : Chg F a c:=h.trans (Chg.of_ext (F:=F) k) fun _ _ h => h
theorem Chg.mono (h : Chg F w w') (k : ∀ z,z < w.heap.size → F z → G z) : Chg G w w':=⟨h.os,h.tape,h.output,h.size,fun z hz hn => h.block z hz fun hf => hn (k z hz hf)⟩
theorem Chg.new (h : Chg F b c) (k : Ext a b) (hf : ∀ z,z < a.heap.size → ¬ F z) : Ext a c :=
 ⟨h.os.trans (Below.os k),h.tape.trans (Below.tape k),h.output.trans (Below.output k),Nat.le_trans (Below.size k) h.size,fun z hz => (h.block z (Nat.lt_of_lt_of_le hz (Below.size k)) (hf z hz)).trans (Below.block k z hz)⟩
theorem Chg.at (h : Chg F w w') {z : Nat} {o : Obj} (hz : w.heap[z]? = some o) (hf : ¬ F z) : w'.heap[z]? = some o:=by rw [h.block z (Array.getElem?_eq_some_iff.1 hz).1 hf]; exact hz
theorem Chg.cell (h : Chg F w w') {p : Addr} (hz : p.block < w.heap.size) (hf : ¬ F p.block) : w'.cell? p = w.cell? p:=World.cell?_of_block (w:=w) (h.block p.block hz hf)
theorem Chg.setCell (h : Chg F w w') {p : Addr} (hp : F p.block ∨ w.heap.size ≤ p.block) (u : Value) : Chg F w (w'.setCell p u) :=
 ⟨h.os,h.tape,h.output,by simpa [World.setCell] using h.size,fun k hk hn => (Below.heap_setCell _ _ _ _ fun e => by
  subst e
  rcases hp with hp | hp
  ·
   exact hn hp
  ·
   omega).trans (h.block k hk hn)⟩
theorem Chg.drew (h : Chg F w w') : Chg F w w'.drew:=⟨h.os,h.tape,h.output,h.size,h.block⟩
end
section
variable {α : Type} {sz : Nat} {cs : α → List Value} {v : Value} {l : List α} {w w' : World} {F : Nat → Prop} {base ty : Nat}
theorem OwnL.chg (o : OwnL sz cs w base ty v l) (h : Chg F w w') (hf : ∀ k,v.ownBlock = some k → ¬ F k) : OwnL sz cs w' base ty v l :=
 ⟨o.1,o.2.imp id fun ⟨g,cap,cur,e,hg,hh,r⟩ => ⟨g,cap,cur,e,hg,h.at hh (hf g (by rw [e]; rfl)),r⟩⟩
end
end Go.Proofs.YtihophdbkjhopaaGreatDoor
