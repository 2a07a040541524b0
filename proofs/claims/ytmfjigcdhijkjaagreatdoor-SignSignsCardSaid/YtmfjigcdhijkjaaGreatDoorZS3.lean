/-
  Of Pt Q1 Ce Made2 SMath SSpec SBits HBase SWords.
-/
import Derived.WalkKit
import Derived.Deep.WholeRow
import Derived.DeepKeys
import Derived.Test.YtmfjigcdhijkjaaGreatDoorRows
import Derived.Deep.MidRow
import Derived.ChangeKeysEq
import Derived.WalkSpells
import Derived.WalkLawsBesides
import Derived.Deep.LoopGhost
import Derived.BigQuiet
import Derived.Test.YtmfjigcdhijkjaaGreatDoorZS1
import Derived.Test.YtmfjigcdhijkjaaGreatDoorZS2
set_option maxRecDepth 1000000
set_option maxHeartbeats 20000000
namespace Go.Proofs.YtmfjigcdhijkjaaGreatDoor.Pt
section law
variable {n : Nat} [NeZero n]
def Slope (a x1 y1 x2 y2 l : Fin n) : Prop:=l * (x2 - x1) = y2 - y1 ∧ l * (y1 + y2) = x1 * x1 + x1 * x2 + x2 * x2 + a
def OnC (a b x y : Fin n) : Prop:=y * y = x * x * x + a * x + b
def NoZ (n : Nat) [NeZero n] : Prop:=∀ x y : Fin n,x * y = 0 → x = 0 ∨ y = 0
theorem mv1 {x1 y1 x2 y2 l : Fin n} (h : l * (x2 - x1) = y2 - y1) : y1 = y2 - l * (x2 - x1):=by grobner
theorem mv2 {x1 y1 x2 y2 l : Fin n} (h : l * (x2 - x1) = y2 - y1) : y2 = y1 + l * (x2 - x1):=by grobner
theorem zgp {a x1 y1 x2 y2 l : Fin n} (h : Slope a x1 y1 x2 y2 l) : Slope a x2 y2 x1 y1 l:=by
 obtain ⟨h1,h2⟩:=h
 refine ⟨?_,?_⟩ <;> grobner
theorem slope_uniq {a x1 y1 x2 y2 l m : Fin n} (hz : NoZ n) (hn : ¬ (x1 = x2 ∧ y1 + y2 = 0)) (h : Slope a x1 y1 x2 y2 l) (h' : Slope a x1 y1 x2 y2 m) : l = m:=by
 obtain ⟨h1,h2⟩:=h
 obtain ⟨g1,g2⟩:=h'
 have e1 : (l - m) * (x2 - x1) = 0:=by grobner
 have e2 : (l - m) * (y1 + y2) = 0:=by grobner
 rcases hz _ _ e1 with h | h
 ·
  grobner
 ·
  rcases hz _ _ e2 with h' | h'
  ·
   grobner
  ·
   exact absurd ⟨by grobner,h'⟩ hn
theorem on_third {a b x1 y1 x2 y2 l : Fin n} (h : OnC a b x1 y1) (hs : Slope a x1 y1 x2 y2 l) : OnC a b (l * l - x1 - x2) (l * (x1 - (l * l - x1 - x2)) - y1):=by
 obtain ⟨h1,h2⟩:=hs
 have ha : a = 2 * l * y1 + l * l * (x2 - x1) - x1 * x1 - x1 * x2 - x2 * x2:=by grobner
 have hb : b = y1 * y1 - x1 * x1 * x1 - a * x1:=by unfold OnC at h; grobner
 unfold OnC
 subst hb
 subst ha
 grobner
theorem tan0 {x3 xd y3 yd s : Fin n} (h : s * (x3 - xd) = y3 - yd) (hx : xd = x3) : yd = y3:=by subst hx; grobner
theorem tan1 {x1 x2 x3 y2 l m : Fin n} (hR : 2 * (l - m) * y2 = (x1 - x2) * (x1 + x2 + x3 - l * l) - (x3 - x2) * (x1 + x2 + x3 - m * m)) (h : l * l - x1 - x2 = x3) : (l - m) * (2 * y2 + (x3 - x2) * (l + m)) = 0:=by subst h; grobner
theorem tan2 {x2 x3 y2 y3 l m : Fin n} (h : 2 * y2 + (x3 - x2) * (l + m) = 0) (hy : y3 = y2 + m * (x3 - x2)) : y3 + y3 = (x3 - x2) * (m - l):=by subst hy; grobner
theorem tan3 {a x1 x2 x3 y2 y3 l m s : Fin n} (h : 2 * y2 + (x3 - x2) * (l + m) = 0) (hy : y3 = y2 + m * (x3 - x2)) (h4 : y3 + y3 = (x3 - x2) * (m - l)) (hx : l * l - x1 - x2 = x3)
  (m2 : m * (y2 + y3) = x2 * x2 + x2 * x3 + x3 * x3 + a) (s2 : s * (y3 + y3) = x3 * x3 + x3 * x3 + x3 * x3 + a) : (x3 - x2) * ((l - m) * (s + l) - (x1 - x3)) = 0:=by
 have e1 : y2 + y3 = - ((x3 - x2) * l):=by clear m2 s2 hx; subst hy; grobner
 rw [e1] at m2
 rw [h4] at s2
 clear h h4 hy e1
 have e2 : x1 = l * l - x2 - x3:=by grobner
 subst e2
 grobner
theorem sec1 {x1 x2 x3 y2 y3 l m s xd yd : Fin n} (h : s * (x3 - xd) = y3 - yd) (hy : y3 = y2 + m * (x3 - x2)) (hd : yd = l * (x1 - xd) - (y2 - l * (x2 - x1))) : (s + l) * (x3 - xd) = 2 * y2 + (l + m) * (x3 - x2):=by
 subst hy
 subst hd
 grobner
theorem sec2 {x1 x2 x3 y2 l m s : Fin n} (hR : 2 * (l - m) * y2 = (x1 - x2) * (x1 + x2 + x3 - l * l) - (x3 - x2) * (x1 + x2 + x3 - m * m)) (h : (s + l) * (x3 - (l * l - x1 - x2)) = 2 * y2 + (l + m) * (x3 - x2)) :
  (x3 - (l * l - x1 - x2)) * ((l - m) * (s + l) - (x1 - x3)) = 0:=by grobner
theorem keyR {a x1 y1 x2 y2 x3 y3 l m : Fin n} (hl : Slope a x1 y1 x2 y2 l) (hm : Slope a x2 y2 x3 y3 m) : 2 * (l - m) * y2 = (x1 - x2) * (x1 + x2 + x3 - l * l) - (x3 - x2) * (x1 + x2 + x3 - m * m):=by
 obtain ⟨l1,l2⟩:=hl
 obtain ⟨m1,m2⟩:=hm
 have hy1:=mv1 l1
 have hy3:=mv2 m1
 subst hy1
 subst hy3
 clear l1 m1
 grobner
theorem eq_of_sub {x y : Fin n} (h : x - y = 0) : x = y:=by grobner
theorem key {a x1 y1 x2 y2 x3 y3 l m s : Fin n} (hz : NoZ n) (hlm : l ≠ m) (hl : Slope a x1 y1 x2 y2 l) (hm : Slope a x2 y2 x3 y3 m)
  (hs : Slope a (l * l - x1 - x2) (l * (x1 - (l * l - x1 - x2)) - y1) x3 y3 s) (hn : ¬ (l * l - x1 - x2 = x3 ∧ l * (x1 - (l * l - x1 - x2)) - y1 + y3 = 0)) : (l - m) * (s + l) = x1 - x3:=by
 have hR:=keyR hl hm
 obtain ⟨l1,l2⟩:=hl
 obtain ⟨m1,m2⟩:=hm
 obtain ⟨s1,s2⟩:=hs
 have hy1:=mv1 l1
 have hy3:=mv2 m1
 by_cases hP : l * l - x1 - x2 = x3
 ·
  have hyy:=tan0 s1 hP
  have h3 : 2 * y2 + (x3 - x2) * (l + m) = 0:=by
   rcases hz _ _ (tan1 hR hP) with h | h
   ·
    exact absurd (eq_of_sub h) hlm
   ·
    exact h
  have h4:=tan2 h3 hy3
  rw [hyy,hP] at s2
  rcases hz _ _ (tan3 h3 hy3 h4 hP m2 s2) with h | h
  ·
   refine absurd ⟨hP,?_⟩ hn
   rw [hyy,h4,h]
   grobner
  ·
   exact eq_of_sub h
 ·
  rw [hy1] at s1
  rcases hz _ _ (sec2 hR (sec1 s1 hy3 rfl)) with h | h
  ·
   exact absurd (eq_of_sub h).symm hP
  ·
   exact eq_of_sub h
structure Cur (n : Nat) [NeZero n] where
 a : Fin n
 b : Fin n
 inv : Fin n → Fin n
structure Good (E : Cur n) : Prop where
 hz : NoZ n
 nt : ∀ x : Fin n,x * x * x + E.a * x + E.b ≠ 0
 two : (2 : Fin n) ≠ 0
 hinv : ∀ x : Fin n,x ≠ 0 → x * E.inv x = 1
def Cur.lam (E : Cur n) (x1 y1 x2 y2 : Fin n) : Fin n:=if x1 = x2 ∧ y1 = y2 then (3 * (x1 * x1) + E.a) * E.inv (y1 + y1) else (y2 - y1) * E.inv (x2 - x1)
abbrev P (n : Nat):=Option (Fin n × Fin n)
def third (x1 y1 x2 l : Fin n) : P n:=some (l * l - x1 - x2,l * (x1 - (l * l - x1 - x2)) - y1)
def Cur.add (E : Cur n) : P n → P n → P n
 | none,q => q
 | p,none => p
 | some (x1,y1),some (x2,y2) => if x1 = x2 ∧ y1 + y2 = 0 then none else third x1 y1 x2 (E.lam x1 y1 x2 y2)
def neg : P n → P n
 | none => none
 | some (x,y) => some (x,- y)
def Cur.on (E : Cur n) : P n → Prop
 | none => True
 | some (x,y) => OnC E.a E.b x y
variable {E : Cur n}
theorem zdm (G : Good E) {x1 y1 x2 y2 : Fin n} (h1 : OnC E.a E.b x1 y1) (h2 : OnC E.a E.b x2 y2) (hn : ¬ (x1 = x2 ∧ y1 + y2 = 0)) : Slope E.a x1 y1 x2 y2 (E.lam x1 y1 x2 y2):=by
 unfold OnC at h1 h2
 unfold Cur.lam
 by_cases hs : x1 = x2 ∧ y1 = y2
 ·
  rw [if_pos hs]
  obtain ⟨rfl,rfl⟩:=hs
  have hi:=G.hinv (y1 + y1) (fun h => hn ⟨rfl,h⟩)
  generalize E.inv (y1 + y1) = i at hi ⊢
  refine ⟨?_,?_⟩
  ·
   clear hi h1 h2; grobner
  ·
   clear h1 h2; grobner
 ·
  rw [if_neg hs]
  by_cases hx : x1 = x2
  ·
   exfalso
   have e : (y1 - y2) * (y1 + y2) = 0:=by subst hx; grobner
   rcases G.hz _ _ e with h | h
   ·
    exact hs ⟨hx,eq_of_sub h⟩
   ·
    exact hn ⟨hx,h⟩
  ·
   have hx' : x2 - x1 ≠ 0:=fun h => hx (eq_of_sub h).symm
   have hi:=G.hinv (x2 - x1) hx'
   generalize E.inv (x2 - x1) = i at hi ⊢
   have e1 : (y2 - y1) * i * (x2 - x1) = y2 - y1:=by clear h1 h2; grobner
   refine ⟨e1,?_⟩
   generalize (y2 - y1) * i = l at e1 ⊢
   clear hi
   have e : (x2 - x1) * (l * (y1 + y2) - (x1 * x1 + x1 * x2 + x2 * x2 + E.a)) = 0:=by grobner
   rcases G.hz _ _ e with h | h
   ·
    exact absurd h hx'
   ·
    exact eq_of_sub h
theorem zex (G : Good E) {x1 y1 x2 y2 l : Fin n} (h1 : OnC E.a E.b x1 y1) (h2 : OnC E.a E.b x2 y2) (hn : ¬ (x1 = x2 ∧ y1 + y2 = 0)) (hl : Slope E.a x1 y1 x2 y2 l) : E.add (some (x1,y1)) (some (x2,y2)) = third x1 y1 x2 l:=by
 show (if x1 = x2 ∧ y1 + y2 = 0 then none else third x1 y1 x2 (E.lam x1 y1 x2 y2)) = _
 rw [if_neg hn,slope_uniq G.hz hn (zdm G h1 h2 hn) hl]
theorem zep (E : Cur n) {x1 y1 x2 y2 : Fin n} (hn : x1 = x2 ∧ y1 + y2 = 0) : E.add (some (x1,y1)) (some (x2,y2)) = none:=if_pos hn
theorem none_add (E : Cur n) (p : P n) : E.add none p = p:=by cases p <;> rfl
theorem add_none (E : Cur n) (p : P n) : E.add p none = p:=by cases p <;> rfl
theorem zig {x1 y1 x2 y2 l : Fin n} (h1 : OnC E.a E.b x1 y1) (hl : Slope E.a x1 y1 x2 y2 l) : E.on (third x1 y1 x2 l):=on_third h1 hl
theorem on_add (G : Good E) {p q : P n} (hp : E.on p) (hq : E.on q) : E.on (E.add p q):=by
 rcases p with _ | ⟨x1,y1⟩
 ·
  rw [none_add]; exact hq
 rcases q with _ | ⟨x2,y2⟩
 ·
  rw [add_none]; exact hp
 by_cases hn : x1 = x2 ∧ y1 + y2 = 0
 ·
  rw [zep E hn]; trivial
 ·
  have hl:=zdm G hp hq hn
  rw [zex G hp hq hn hl]
  exact zig hp hl
theorem zhq {x1 y1 x2 y2 l a : Fin n} (hl : Slope a x1 y1 x2 y2 l) : third x1 y1 x2 l = third x2 y2 x1 l:=by
 obtain ⟨h1,_⟩:=hl
 unfold third
 have e1 : l * l - x1 - x2 = l * l - x2 - x1:=by clear h1; grobner
 rw [← e1]
 have e2 : l * (x1 - (l * l - x1 - x2)) - y1 = l * (x2 - (l * l - x1 - x2)) - y2:=by
  have:=mv2 h1
  clear h1 e1
  subst this
  grobner
 rw [e2]
theorem opp_symm {x1 y1 x2 y2 : Fin n} (h : x1 = x2 ∧ y1 + y2 = 0) : x2 = x1 ∧ y2 + y1 = 0:=⟨h.1.symm,by have:=h.2; clear h; grobner⟩
theorem zdh (G : Good E) {p q : P n} (hp : E.on p) (hq : E.on q) : E.add p q = E.add q p:=by
 rcases p with _ | ⟨x1,y1⟩
 ·
  rw [none_add,add_none]
 rcases q with _ | ⟨x2,y2⟩
 ·
  rw [none_add,add_none]
 by_cases hn : x1 = x2 ∧ y1 + y2 = 0
 ·
  rw [zep E hn,zep E (opp_symm hn)]
 ·
  have hl:=zdm G hp hq hn
  rw [zex G hp hq hn hl,zex G hq hp (fun h => hn (opp_symm h)) (zgp hl),zhq hl]
theorem zfh {p : P n} (hp : E.on p) : E.on (neg p):=by
 rcases p with _ | ⟨x1,y1⟩
 ·
  trivial
 ·
  change OnC _ _ _ _ at hp
  change OnC _ _ _ _
  unfold OnC at *
  rw [← hp]
  clear hp
  grobner
theorem zfi (p : P n) : neg (neg p) = p:=by
 rcases p with _ | ⟨x1,y1⟩
 ·
  rfl
 ·
  show some (x1,- - y1) = some (x1,y1)
  have : - - y1 = y1:=by grobner
  rw [this]
theorem zhp (E : Cur n) (p : P n) : E.add p (neg p) = none:=by
 rcases p with _ | ⟨x1,y1⟩
 ·
  rfl
 ·
  exact zep E ⟨rfl,by grobner⟩
theorem dbl_zero (G : Good E) {y : Fin n} (h : y + y = 0) : y = 0:=by
 have e : 2 * y = 0:=by grobner
 rcases G.hz _ _ e with h | h
 ·
  exact absurd h G.two
 ·
  exact h
theorem y_ne (G : Good E) {x y : Fin n} (h : OnC E.a E.b x y) : y ≠ 0:=by
 intro e
 subst e
 refine G.nt x ?_
 unfold OnC at h
 rw [← h]
 clear h
 grobner
theorem neg_add' (G : Good E) {p q : P n} (hp : E.on p) (hq : E.on q) : neg (E.add p q) = E.add (neg p) (neg q):=by
 rcases p with _ | ⟨x1,y1⟩
 ·
  rw [none_add]; exact (none_add E _).symm
 rcases q with _ | ⟨x2,y2⟩
 ·
  rw [add_none]; exact (add_none E _).symm
 by_cases hn : x1 = x2 ∧ y1 + y2 = 0
 ·
  rw [zep E hn]
  exact (zep E ⟨hn.1,by have:=hn.2; clear hn; grobner⟩).symm
 ·
  have hl:=zdm G hp hq hn
  rw [zex G hp hq hn hl]
  have hn' : ¬ (x1 = x2 ∧ - y1 + - y2 = 0):=fun h => hn ⟨h.1,by have:=h.2; clear h hl hn hp hq; grobner⟩
  generalize E.lam x1 y1 x2 y2 = l at hl ⊢
  have hl' : Slope E.a x1 (- y1) x2 (- y2) (- l):=by
   obtain ⟨g1,g2⟩:=hl
   refine ⟨?_,?_⟩
   ·
    clear g2 hn hn' hp hq; grobner
   ·
    rw [← g2]; clear g1 g2 hn hn' hp hq; grobner
  have hN : E.add (neg (some (x1,y1))) (neg (some (x2,y2))) = third x1 (- y1) x2 (- l):=zex G (zfh hp) (zfh hq) hn' hl'
  rw [hN]
  clear hl' hl hn hn' hN hp hq
  show some (_,_) = some (_,_)
  have e1 : - l * - l - x1 - x2 = l * l - x1 - x2:=by grobner
  rw [e1]
  have e2 : - (l * (x1 - (l * l - x1 - x2)) - y1) = - l * (x1 - (l * l - x1 - x2)) - - y1:=by grobner
  rw [e2]
theorem rot (G : Good E) {p q : P n} (hp : E.on p) (hq : E.on q) : E.add q (neg (E.add p q)) = neg p:=by
 rcases p with _ | ⟨x1,y1⟩
 ·
  rw [none_add]; exact zhp E q
 rcases q with _ | ⟨x2,y2⟩
 ·
  rw [none_add,add_none]
 by_cases hn : x1 = x2 ∧ y1 + y2 = 0
 ·
  rw [zep E hn]
  show E.add (some (x2,y2)) none = some (x1,- y1)
  rw [add_none]
  obtain ⟨rfl,h⟩:=hn
  have : y2 = - y1:=by clear hp hq; grobner
  rw [this]
 ·
  have hl:=zdm G hp hq hn
  rw [zex G hp hq hn hl]
  generalize E.lam x1 y1 x2 y2 = l at hl
  have h3 : E.on (neg (third x1 y1 x2 l)):=zfh (zig hp hl)
  change E.add _ (some (l * l - x1 - x2,- (l * (x1 - (l * l - x1 - x2)) - y1))) = _
  change E.on (some (l * l - x1 - x2,- (l * (x1 - (l * l - x1 - x2)) - y1))) at h3
  obtain ⟨g1,g2⟩:=hl
  have hy:=mv1 g1
  have e1 : - (l * (x1 - (l * l - x1 - x2)) - y1) = y2 + l * (l * l - x1 - x2 - x2):=by clear g1 g2 h3 hn hp hq; subst hy; grobner
  rw [e1] at h3 ⊢
  have hs : Slope E.a x2 y2 (l * l - x1 - x2) (y2 + l * (l * l - x1 - x2 - x2)) l:=by
   refine ⟨?_,?_⟩
   ·
    clear g1 g2 h3 hn hp hq hy e1; grobner
   ·
    have : E.a = l * (y1 + y2) - (x1 * x1 + x1 * x2 + x2 * x2):=by rw [g2]; clear g1 g2 h3 hn hp hq hy e1; grobner
    rw [this,hy]
    clear this g1 g2 h3 hn hp hq hy e1
    grobner
  have hn2 : ¬ (x2 = l * l - x1 - x2 ∧ y2 + (y2 + l * (l * l - x1 - x2 - x2)) = 0):=by
   rintro ⟨h,h'⟩
   rw [← h] at h'
   refine y_ne G hq (dbl_zero G ?_)
   rw [← h']
   clear h h' hs g1 g2 h3 hn hp hq hy e1
   grobner
  rw [zex G hq h3 hn2 hs]
  show some (_,_) = some (_,_)
  have e2 : l * l - x2 - (l * l - x1 - x2) = x1:=by clear hn2 hs g1 g2 h3 hn hp hq hy e1; grobner
  have e3 : l * (x2 - x1) - y2 = - y1:=by rw [hy]; clear hn2 hs g1 g2 h3 hn hp hq hy e1 e2; grobner
  rw [e2,e3]
theorem back (G : Good E) {p q : P n} (hp : E.on p) (hq : E.on q) : E.add (neg q) (E.add p q) = p:=by
 have h:=rot G hp hq
 have h2:=congrArg neg h
 rw [zfi,neg_add' G hq (zfh (on_add G hp hq)),zfi] at h2
 exact h2
theorem fore (G : Good E) {p q : P n} (hp : E.on p) (hq : E.on q) : E.add p (E.add (neg p) q) = q:=by
 have h:=back G hq (zfh hp)
 rw [zfi,zdh G hq (zfh hp)] at h
 exact h
theorem opp_eq {x1 y1 x2 y2 : Fin n} (h : x1 = x2 ∧ y1 + y2 = 0) : (some (x2,y2) : P n) = neg (some (x1,y1)):=by
 obtain ⟨rfl,h⟩:=h
 have : y2 = - y1:=by grobner
 rw [this]
 rfl
theorem two_ways (G : Good E) {x1 y1 x2 y2 x3 y3 : Fin n} (h1 : OnC E.a E.b x1 y1) (h2 : OnC E.a E.b x2 y2) (h3 : OnC E.a E.b x3 y3)
  (n12 : ¬ (x1 = x2 ∧ y1 + y2 = 0)) (n32 : ¬ (x3 = x2 ∧ y3 + y2 = 0))
  (nl : E.add (some (x1,y1)) (some (x2,y2)) ≠ neg (some (x3,y3))) (nr : E.add (some (x3,y3)) (some (x2,y2)) ≠ neg (some (x1,y1))) :
  E.add (E.add (some (x1,y1)) (some (x2,y2))) (some (x3,y3)) = E.add (E.add (some (x3,y3)) (some (x2,y2))) (some (x1,y1)):=by
 have hl:=zdm G h1 h2 n12
 have hm:=zdm G h3 h2 n32
 have el:=zex G h1 h2 n12 hl
 have em:=zex G h3 h2 n32 hm
 generalize E.lam x1 y1 x2 y2 = l at hl el
 generalize E.lam x3 y3 x2 y2 = m at hm em
 rw [el] at nl ⊢
 rw [em] at nr ⊢
 have onD : E.on (third x1 y1 x2 l):=zig h1 hl
 have onF : E.on (third x3 y3 x2 m):=zig h3 hm
 unfold third at nl nr onD onF ⊢
 have nD : ¬ (l * l - x1 - x2 = x3 ∧ l * (x1 - (l * l - x1 - x2)) - y1 + y3 = 0):=by
  intro h
  refine nl ?_
  rw [opp_eq h]
  exact (zfi _).symm
 have nF : ¬ (m * m - x3 - x2 = x1 ∧ m * (x3 - (m * m - x3 - x2)) - y3 + y1 = 0):=by
  intro h
  refine nr ?_
  rw [opp_eq h]
  exact (zfi _).symm
 have hs:=zdm G onD h3 nD
 have ht:=zdm G onF h1 nF
 rw [zex G onD h3 nD hs,zex G onF h1 nF ht,zhq hs,zhq ht]
 generalize E.lam (l * l - x1 - x2) _ x3 y3 = s at hs
 generalize E.lam (m * m - x3 - x2) _ x1 y1 = t at ht
 by_cases hlm : l = m
 ·
  subst hlm
  have hR:=keyR hl (zgp hm)
  have e : (x1 - x3) * (x1 + x2 + x3 - l * l) = 0:=by clear hs ht nD nF nl nr onD onF n12 n32 h1 h2 h3 hl hm el em; grobner
  have hy1:=mv1 hl.1
  have hy3:=mv1 hm.1
  rcases G.hz _ _ e with h | h
  ·
   have hx : x1 = x3:=eq_of_sub h
   have hy : y1 = y3:=by rw [hy1,hy3,hx]
   subst hx
   subst hy
   have:=slope_uniq G.hz nD hs ht
   rw [this]
  ·
   refine absurd ⟨?_,?_⟩ nD
   ·
    clear hs ht nD nF nl nr onD onF n12 n32 h1 h2 h3 hl hm el em hR e hy1 hy3; grobner
   ·
    have e2 : l * l - x1 - x2 = x3:=by clear hs ht nD nF nl nr onD onF n12 n32 h1 h2 h3 hl hm el em hR e hy1 hy3; grobner
    rw [e2,hy1,hy3]
    clear hs ht nD nF nl nr onD onF n12 n32 h1 h2 h3 hl hm el em hR e hy1 hy3 h e2
    grobner
 ·
  have k1:=key G.hz hlm hl (zgp hm) hs nD
  have k2:=key G.hz (fun h => hlm h.symm) hm (zgp hl) ht nF
  have hk : (l - m) * (s + l - (t + m)) = 0:=by clear hs ht nD nF nl nr onD onF n12 n32 h1 h2 h3 hl hm el em; grobner
  have hk2 : s = t + m - l:=by
   rcases G.hz _ _ hk with h | h
   ·
    exact absurd (eq_of_sub h) hlm
   ·
    clear hs ht nD nF nl nr onD onF n12 n32 h1 h2 h3 hl hm el em hk k1 k2; grobner
  have hy1:=mv1 hl.1
  have hy3:=mv1 hm.1
  have hx : x3 = x1 + (m - l) * (t + m):=by rw [k2]; clear hs ht nD nF nl nr onD onF n12 n32 h1 h2 h3 hl hm el em hk k1 k2; grobner
  clear hs ht nD nF nl nr onD onF n12 n32 h1 h2 h3 hl hm el em hk k1 k2
  unfold third
  have ex : s * s - x3 - (l * l - x1 - x2) = t * t - x1 - (m * m - x3 - x2):=by
   clear hy1 hy3
   subst hk2
   subst hx
   grobner
  rw [ex]
  have ey : s * (x3 - (t * t - x1 - (m * m - x3 - x2))) - y3 = t * (x1 - (t * t - x1 - (m * m - x3 - x2))) - y1:=by
   clear ex
   subst hy1
   subst hy3
   subst hk2
   subst hx
   grobner
  rw [ey]
theorem assoc (G : Good E) {p q r : P n} (hp : E.on p) (hq : E.on q) (hr : E.on r) : E.add (E.add p q) r = E.add p (E.add q r):=by
 have hpq:=on_add G hp hq
 have hqr:=on_add G hq hr
 rcases p with _ | ⟨x1,y1⟩
 ·
  rw [none_add,none_add]
 rcases q with _ | ⟨x2,y2⟩
 ·
  rw [none_add,add_none]
 rcases r with _ | ⟨x3,y3⟩
 ·
  rw [add_none,add_none]
 by_cases n12 : x1 = x2 ∧ y1 + y2 = 0
 ·
  rw [zep E n12,none_add,opp_eq n12]
  exact (fore G hp hr).symm
 by_cases n32 : x3 = x2 ∧ y3 + y2 = 0
 ·
  rw [zep E (opp_symm n32),add_none,opp_eq n32,zdh G (on_add G hp (zfh hr)) hr,zdh G hp (zfh hr)]
  exact fore G hr hp
 by_cases nl : E.add (some (x1,y1)) (some (x2,y2)) = neg (some (x3,y3))
 ·
  have h:=rot G hp hq
  rw [nl,zfi] at h
  rw [nl,h,zhp,zdh G (zfh hr) hr,zhp]
 by_cases nr : E.add (some (x3,y3)) (some (x2,y2)) = neg (some (x1,y1))
 ·
  have h:=rot G hr hq
  rw [nr,zfi] at h
  rw [zdh G hq hr,nr,zhp,zdh G hp hq,h,zdh G (zfh hr) hr,zhp]
 rw [two_ways G hp hq hr n12 n32 nl nr,zdh G (on_add G hr hq) hp,zdh G hr hq]
end law
theorem php : ∀ (b a : Nat) (f : Nat → Nat),(∀ i,i < a → f i < b) → (∀ i j,i < a → j < a → f i = f j → i = j) → a ≤ b:=by
 intro b
 induction b with
 | zero =>
  intro a f h _
  rcases Nat.eq_zero_or_pos a with h0 | h0
  ·
   omega
  ·
   have:=h 0 h0; omega
 | succ b ih =>
  intro a f h inj
  rcases a with _ | a
  ·
   omega
  ·
   have hv:=h a (by omega)
   have:=ih a (fun i => if f i = b then f a else f i) (by
    intro i hi
    have h1:=h i (by omega)
    by_cases e : f i = b
    ·
     rw [if_pos e]
     have : f a ≠ b:=fun e2 => by have:=inj i a (by omega) (by omega) (by rw [e,e2]); omega
     omega
    ·
     rw [if_neg e]; omega) (by
    intro i j hi hj e
    have ha : ∀ k,k < a → f k ≠ f a:=fun k hk e2 => by have:=inj k a (by omega) (by omega) e2; omega
    have e : (if f i = b then f a else f i) = (if f j = b then f a else f j):=e
    by_cases e1 : f i = b <;> by_cases e2 : f j = b
    ·
     exact inj i j (by omega) (by omega) (by rw [e1,e2])
    ·
     rw [if_pos e1,if_neg e2] at e; exact absurd e.symm (ha j hj)
    ·
     rw [if_neg e1,if_pos e2] at e; exact absurd e (ha i hi)
    ·
     rw [if_neg e1,if_neg e2] at e; exact inj i j (by omega) (by omega) e)
   omega
structure Ab (α : Type) where
 op : α → α → α
 o : α
 ng : α → α
 comm : ∀ p q,op p q = op q p
 assoc : ∀ p q r,op (op p q) r = op p (op q r)
 ido : ∀ p,op o p = p
 ngo : ∀ p,op p (ng p) = o
namespace Ab
variable {α : Type} (A : Ab α)
theorem oid (p : α) : A.op p A.o = p:=by rw [A.comm,A.ido]
theorem back (p q : α) : A.op (A.op p q) (A.ng q) = p:=by rw [A.assoc,A.ngo,A.oid]
def mul : Nat → α → α
 | 0,_ => A.o
 | k + 1,p => A.op (mul k p) p
theorem mul_succ (k : Nat) (p : α) : A.mul (k + 1) p = A.op (A.mul k p) p:=rfl
theorem mul_add (i k : Nat) (p : α) : A.mul (i + k) p = A.op (A.mul i p) (A.mul k p):=by
 induction k with
 | zero => show A.mul i p = A.op (A.mul i p) A.o; rw [A.oid]
 | succ k ih => show A.op (A.mul (i + k) p) p = A.op (A.mul i p) (A.op (A.mul k p) p); rw [ih,A.assoc]
theorem mul_one (p : α) : A.mul 1 p = p:=A.ido p
variable {A}
end Ab
def Pr (q : Nat) : Prop:=q ≠ 1 ∧ ∀ d,d ∣ q → d = 1 ∨ d = q
def prodl : List Nat → Nat
 | [] => 1
 | q :: l => q * prodl l
theorem pr_in : ∀ (l : List Nat) (c : Nat),(∀ q,q ∈ l → Pr q) → c ∣ prodl l → c ≠ 1 → ∃ q,q ∈ l ∧ q ∣ c
 | [],c,_,h,h1 => absurd (Nat.eq_one_of_dvd_one h) h1
 | q :: l,c,hp,h,h1 => by
  rcases (hp q (List.mem_cons_self)).2 _ (Nat.gcd_dvd_right c q) with h2 | h2
  ·
   have h3 : c ∣ prodl l:=Nat.Coprime.dvd_of_dvd_mul_left h2 h
   obtain ⟨r,hr,hr2⟩:=pr_in l c (fun r hr => hp r (List.mem_cons_of_mem _ hr)) h3 h1
   exact ⟨r,List.mem_cons_of_mem _ hr,hr2⟩
  ·
   exact ⟨q,List.mem_cons_self,by rw [← h2]; exact Nat.gcd_dvd_left c q⟩
theorem part_of {l : List Nat} {N d : Nat} (hl : prodl l = N) (hp : ∀ q,q ∈ l → Pr q) (h0 : 0 < N) (hd : d ∣ N) (hne : d ≠ N) : ∃ q,q ∈ l ∧ d ∣ N / q:=by
 obtain ⟨c,hc⟩:=hd
 have hc1 : c ≠ 1:=fun h => hne (by rw [hc,h,Nat.mul_one])
 obtain ⟨q,hq,k,hk⟩:=pr_in l c hp ⟨d,by rw [hl,hc,Nat.mul_comm]⟩ hc1
 refine ⟨q,hq,k,?_⟩
 have hq0 : 0 < q:=by
  rcases Nat.eq_zero_or_pos q with h | h
  ·
   subst h; rw [Nat.zero_mul] at hk; subst hk; rw [Nat.mul_zero] at hc; omega
  ·
   exact h
 rw [hc,hk,Nat.mul_left_comm,Nat.mul_div_cancel_left _ hq0]
section power
variable {n : Nat} [NeZero n]
theorem val_one (hn : 1 < n) : (1 : Fin n).val = 1:=by
 show 1 % n = 1
 exact Nat.mod_eq_of_lt hn
def pf (g : Fin n) : Nat → Fin n
 | 0 => 1
 | k + 1 => pf g k * g
theorem zgy (x : Fin n) : x * 1 = x:=by grobner
theorem zgb (x : Fin n) : 1 * x = x:=by grobner
theorem zfj (x y z : Fin n) : x * y * z = x * (y * z):=by grobner
theorem zgc (x y : Fin n) : x * y = y * x:=by grobner
theorem pf_add (g : Fin n) (i k : Nat) : pf g (i + k) = pf g i * pf g k:=by
 induction k with
 | zero => exact (zgy _).symm
 | succ k ih => show pf g (i + k) * g = pf g i * (pf g k * g); rw [ih,zfj]
theorem pf_one (k : Nat) : pf (1 : Fin n) k = 1:=by
 induction k with
 | zero => rfl
 | succ k ih => show pf 1 k * 1 = 1; rw [ih,zgy]
theorem pf_mul (g : Fin n) (i k : Nat) : pf g (i * k) = pf (pf g i) k:=by
 induction k with
 | zero => rfl
 | succ k ih => rw [Nat.mul_succ,pf_add,ih]; rfl
theorem pf_gcd (g : Fin n) (i k : Nat) : pf g i = 1 → pf g k = 1 → pf g (Nat.gcd i k) = 1:=by
 refine Nat.gcd.induction i k ?_ ?_
 ·
  intro k _ h
  rwa [Nat.gcd_zero_left]
 ·
  intro i k hi ih h1 h2
  rw [Nat.gcd_rec]
  refine ih ?_ h1
  have e:=Nat.div_add_mod k i
  rw [← e,pf_add,pf_mul,h1,pf_one,zgb] at h2
  exact h2
theorem pf_dvd (g : Fin n) {i k : Nat} (h : i ∣ k) (h1 : pf g i = 1) : pf g k = 1:=by
 obtain ⟨c,rfl⟩:=h
 rw [pf_mul,h1,pf_one]
structure Root (g : Fin n) : Prop where
 one : pf g (n - 1) = 1
 all : ∀ x : Fin n,x ≠ 0 → ∃ i,x = pf g i
theorem root_of {g : Fin n} {l : List Nat} (hn : 1 < n) (hl : prodl l = n - 1) (hp : ∀ q,q ∈ l → Pr q) (h1 : pf g (n - 1) = 1) (hq : ∀ q,q ∈ l → pf g ((n - 1) / q) ≠ 1) : Root g:=by
 refine ⟨h1,?_⟩
 have z1 : (0 : Fin n) ≠ 1:=by
  intro h
  have h : (0 : Fin n).val = (1 : Fin n).val:=congrArg Fin.val h
  rw [Fin.val_zero,val_one hn] at h
  omega
 have big : ∀ e,0 < e → e < n - 1 → pf g e ≠ 1:=by
  intro e h0 h2 h3
  have h4:=pf_gcd g (n - 1) e h1 h3
  have hle:=Nat.le_of_dvd h0 (Nat.gcd_dvd_right (n - 1) e)
  obtain ⟨q,hql,hqd⟩:=part_of hl hp (by omega) (Nat.gcd_dvd_left (n - 1) e) (by omega)
  exact hq q hql (pf_dvd g hqd h4)
 have nz : ∀ i,i < n → pf g i ≠ 0:=by
  intro i hi h
  have e : pf g (i + (n - 1 - i)) = 1 ∨ i = n - 1 + 1:=by
   left
   rw [show i + (n - 1 - i) = n - 1 by omega,h1]
  rcases e with e | e
  ·
   rw [pf_add,h] at e
   exact z1 (by rw [← e]; grobner)
  ·
   omega
 have inj : ∀ i j,i < j → j < n → 0 < i → pf g i ≠ pf g j:=by
  intro i j h2 h3 h0 h
  refine big (j - i) (by omega) (by omega) ?_
  have e1 : pf g i * pf g (n - 1 - i) = 1:=by rw [← pf_add,show i + (n - 1 - i) = n - 1 by omega,h1]
  have e2 : pf g j = pf g (j - i) * pf g i:=by rw [← pf_add,show j - i + i = j by omega]
  rw [e2] at h
  have e3 : pf g i * pf g (n - 1 - i) = pf g (j - i) * (pf g i * pf g (n - 1 - i)):=by rw [← zfj,← h]
  rw [e1,zgy] at e3
  exact e3.symm
 intro x hx
 refine Classical.byContradiction fun hno => ?_
 have hx0 : x.val ≠ 0:=fun h => hx (Fin.ext (by rw [h,Fin.val_zero]))
 have hno2 : ∀ i,(pf g i).val ≠ x.val:=fun i h => hno ⟨i,Fin.ext h.symm⟩
 have nz2 : ∀ i,i < n → (pf g i).val ≠ 0:=fun i hi h => nz i hi (Fin.ext (by rw [h,Fin.val_zero]))
 have:=php (n - 2) (n - 1) (fun i => if (pf g (i + 1)).val = n - 1 then x.val - 1 else (pf g (i + 1)).val - 1) (by
  intro i hi
  have a1:=nz2 (i + 1) (by omega)
  have a2:=(pf g (i + 1)).isLt
  have a3:=hno2 (i + 1)
  have a4:=x.isLt
  show (if (pf g (i + 1)).val = n - 1 then x.val - 1 else (pf g (i + 1)).val - 1) < n - 2
  split <;> omega) (by
  intro i j hi hj h
  have h : (if (pf g (i + 1)).val = n - 1 then x.val - 1 else (pf g (i + 1)).val - 1) = (if (pf g (j + 1)).val = n - 1 then x.val - 1 else (pf g (j + 1)).val - 1):=h
  have a1:=nz2 (i + 1) (by omega)
  have b1:=nz2 (j + 1) (by omega)
  have a3:=hno2 (i + 1)
  have b3:=hno2 (j + 1)
  have e : (pf g (i + 1)).val = (pf g (j + 1)).val:=by
   split at h <;> split at h <;> omega
  have e : pf g (i + 1) = pf g (j + 1):=Fin.ext e
  rcases Nat.lt_trichotomy i j with h3 | h3 | h3
  ·
   exact absurd e (inj _ _ (by omega) (by omega) (by omega))
  ·
   exact h3
  ·
   exact absurd e.symm (inj _ _ (by omega) (by omega) (by omega)))
 omega
theorem root_inv {g : Fin n} (h : Root g) {x : Fin n} (hx : x ≠ 0) : pf x (n - 1) = 1:=by
 obtain ⟨i,rfl⟩:=h.all x hx
 rw [← pf_mul,Nat.mul_comm,pf_mul,h.one,pf_one]
theorem zhj {g : Fin n} (h : Root g) (hn : 1 < n) {x : Fin n} (hx : x ≠ 0) : x * pf x (n - 2) = 1:=by
 have:=root_inv h hx
 rw [show n - 1 = n - 2 + 1 by omega] at this
 rw [zgc]
 exact this
theorem root_noz {g : Fin n} (h : Root g) (hn : 1 < n) (x y : Fin n) (e : x * y = 0) : x = 0 ∨ y = 0:=by
 by_cases hx : x = 0
 ·
  exact Or.inl hx
 ·
  have hi:=zhj h hn hx
  generalize pf x (n - 2) = i at hi
  right
  have : y = x * i * y:=by rw [hi,zgb]
  rw [this,zgc x i,zfj,e]
  clear this hi e hx h
  grobner
theorem root_pr {g : Fin n} (h : Root g) (hn : 1 < n) : Pr n:=by
 refine ⟨by omega,fun d hd => ?_⟩
 have hle:=Nat.le_of_dvd (by omega) hd
 rcases Nat.lt_or_ge d n with hlt | hge
 ·
  left
  have hd0 : 0 < d:=Nat.pos_of_dvd_of_pos hd (by omega)
  have hx : (⟨d,hlt⟩ : Fin n) ≠ 0:=fun e => by have:=congrArg Fin.val e; rw [Fin.val_zero] at this; have this : d = 0:=this; omega
  have hi:=zhj h hn hx
  generalize pf (⟨d,hlt⟩ : Fin n) (n - 2) = i at hi
  have hi:=congrArg Fin.val hi
  rw [Fin.val_mul,val_one hn] at hi
  have hi : d * i.val % n = 1:=hi
  have h2 : d ∣ d * i.val % n:=(Nat.dvd_mod_iff hd).mpr ⟨i.val,rfl⟩
  rw [hi] at h2
  exact Nat.eq_one_of_dvd_one h2
 ·
  right; omega
end power
def pw (m : Nat) : Nat → Nat → Nat → Nat
 | 0,_,_ => 1 % m
 | f + 1,b,e => if e = 0 then 1 % m else if e % 2 = 1 then b * pw m f (b * b % m) (e / 2) % m else pw m f (b * b % m) (e / 2)
section number
variable {n : Nat} [NeZero n]
def F (x : Nat) : Fin n:=⟨x % n,Nat.mod_lt _ (Nat.pos_of_ne_zero (NeZero.ne n))⟩
theorem F_mod (x : Nat) : (F (x % n) : Fin n) = F x:=Fin.ext (Nat.mod_mod _ _)
theorem F_mul (x y : Nat) : (F (x * y) : Fin n) = F x * F y:=Fin.ext (by rw [Fin.val_mul]; exact Nat.mul_mod _ _ _)
theorem F_add (x y : Nat) : (F (x + y) : Fin n) = F x + F y:=Fin.ext (by rw [Fin.val_add]; exact Nat.add_mod _ _ _)
theorem F_val (x : Fin n) : F x.val = x:=Fin.ext (Nat.mod_eq_of_lt x.isLt)
theorem pf_sq (x : Fin n) (k : Nat) : pf (x * x) k = pf x (2 * k):=by
 rw [pf_mul]
 congr 1
 show x * x = 1 * x * x
 rw [zgb]
theorem pw_pf : ∀ (f b e : Nat),e < 2 ^ f → pw n f b e = (pf (F b : Fin n) e).val
 | 0,b,e,h => by
  have : e = 0:=by omega
  subst this
  rfl
 | f + 1,b,e,h => by
  unfold pw
  have hd : e / 2 < 2 ^ f:=by rw [Nat.pow_succ] at h; omega
  have ih:=pw_pf f (b * b % n) (e / 2) hd
  rw [F_mod,F_mul,pf_sq] at ih
  by_cases h0 : e = 0
  ·
   rw [if_pos h0,h0]; rfl
  ·
   rw [if_neg h0]
   by_cases h1 : e % 2 = 1
   ·
    rw [if_pos h1,ih]
    have e1 : e = 2 * (e / 2) + 1:=by omega
    generalize e / 2 = k at e1
    subst e1
    show _ = (pf (F b) (2 * k) * F b).val
    rw [Fin.val_mul,Nat.mul_comm]
    show (pf (F b : Fin n) (2 * k)).val * b % n = (pf (F b : Fin n) (2 * k)).val * (b % n) % n
    rw [Nat.mul_mod _ (b % n),Nat.mod_mod,← Nat.mul_mod]
   ·
    rw [if_neg h1,ih]
    congr 2
    omega
end number
def rowOk (ps : List Nat) (r : Nat × Nat × List Nat) : Bool :=
 decide (1 < r.1) && decide (r.1 < 2 ^ 256) && decide (prodl r.2.2 = r.1 - 1) && r.2.2.all (fun q => ps.contains q) && decide (pw r.1 256 r.2.1 (r.1 - 1) = 1) && r.2.2.all (fun q => decide (pw r.1 256 r.2.1 ((r.1 - 1) / q) ≠ 1))
theorem row_root {ps : List Nat} {n g : Nat} {l : List Nat} [NeZero n] (hp : ∀ q,q ∈ ps → Pr q) (h : rowOk ps (n,g,l) = true) : 1 < n ∧ Root (F g : Fin n):=by
 unfold rowOk at h
 simp only [Bool.and_eq_true,decide_eq_true_eq,List.all_eq_true] at h
 obtain ⟨⟨⟨⟨⟨h1,h2⟩,h3⟩,h4⟩,h5⟩,h6⟩:=h
 have h5 : pw n 256 g (n - 1) = 1:=h5
 have h1 : 1 < n:=h1
 have h2 : n < 2 ^ 256:=h2
 refine ⟨h1,root_of (l:=l) h1 h3 (fun q hq => hp q (by have:=h4 q hq; exact List.contains_iff_mem.mp this)) ?_ ?_⟩
 ·
  apply Fin.ext
  exact (pw_pf (n:=n) 256 g (n - 1) (Nat.lt_of_le_of_lt (Nat.sub_le _ _) h2)).symm.trans (h5.trans (val_one h1).symm)
 ·
  intro q hq e
  have h6 : pw n 256 g ((n - 1) / q) ≠ 1:=h6 q hq
  refine h6 ?_
  have e2:=pw_pf (n:=n) 256 g ((n - 1) / q) (Nat.lt_of_le_of_lt (Nat.div_le_self _ _) (Nat.lt_of_le_of_lt (Nat.sub_le _ _) h2))
  rw [e2]
  exact (congrArg Fin.val e).trans (val_one h1)
def tabOk : List Nat → List (Nat × Nat × List Nat) → Bool
 | _,[] => true
 | ps,r :: t => rowOk ps r && tabOk (r.1 :: ps) t
theorem row_pr {ps : List Nat} {r : Nat × Nat × List Nat} (hp : ∀ q,q ∈ ps → Pr q) (h : rowOk ps r = true) : Pr r.1:=by
 obtain ⟨n,g,l⟩:=r
 show Pr n
 have h1 : 1 < n:=by
  unfold rowOk at h
  simp only [Bool.and_eq_true,decide_eq_true_eq] at h
  exact h.1.1.1.1.1
 haveI : NeZero n:=⟨by omega⟩
 exact root_pr (row_root hp h).2 h1
theorem tab_pr : ∀ (t : List (Nat × Nat × List Nat)) (ps : List Nat),(∀ q,q ∈ ps → Pr q) → tabOk ps t = true → ∀ r,r ∈ t → Pr r.1 ∧ ∃ ps',(∀ q,q ∈ ps' → Pr q) ∧ rowOk ps' r = true
 | [],_,_,_,r,hr => absurd hr List.not_mem_nil
 | r0 :: t,ps,hp,h,r,hr => by
  have h : (rowOk ps r0 && tabOk (r0.1 :: ps) t) = true:=h
  rw [Bool.and_eq_true] at h
  have h0:=row_pr hp h.1
  rcases List.mem_cons.mp hr with e | e
  ·
   rw [e]; exact ⟨h0,ps,hp,h.1⟩
  ·
   refine tab_pr t (r0.1 :: ps) ?_ h.2 r e
   intro q hq
   rcases List.mem_cons.mp hq with e | e
   ·
    rw [e]; exact h0
   ·
    exact hp q e
theorem pr_two : Pr 2:=by
 refine ⟨by decide,fun d hd => ?_⟩
 have:=Nat.le_of_dvd (by decide) hd
 have h0 : d ≠ 0:=by rintro rfl; omega
 omega
def tab : List (Nat × Nat × List Nat):=[
 (257,3,[2,2,2,2,2,2,2,2]),
 (3,2,[2]),
 (5,2,[2,2]),
 (641,3,[2,2,2,2,2,2,2,5]),
 (65537,3,[2,2,2,2,2,2,2,2,2,2,2,2,2,2,2,2]),
 (11,2,[2,5]),
 (727,5,[2,3,11,11]),
 (17449,14,[2,2,2,3,727]),
 (6700417,5,[2,2,2,2,2,2,2,3,17449]),
 (241,7,[2,2,2,2,3,5]),
 (2411,6,[2,5,241]),
 (17,3,[2,2,2,2]),
 (7,3,[2,3]),
 (197,2,[2,2,7,7]),
 (43,3,[2,3,7]),
 (173,2,[2,2,43]),
 (13,2,[2,2,3]),
 (53,2,[2,2,13]),
 (919,7,[2,3,3,3,17]),
 (3677,2,[2,2,919]),
 (66417393611,6,[2,5,53,173,197,3677]),
 (11290956913871,13,[2,5,17,66417393611]),
 (181,2,[2,2,3,3,5]),
 (1087,3,[2,3,181]),
 (4349,2,[2,2,1087]),
 (78283,3,[2,3,3,4349]),
 (23,5,[2,11]),
 (757,2,[2,2,3,3,3,7]),
 (18169,11,[2,2,2,3,757]),
 (313,10,[2,2,2,3,13]),
 (704251,2,[2,3,3,5,5,5,313]),
 (46076956964474543,5,[2,23,18169,78283,704251]),
 (107,2,[2,53]),
 (157,5,[2,2,3,13]),
 (3769,7,[2,2,2,3,157]),
 (204061199,11,[2,11,23,107,3769]),
 (34282281433,17,[2,2,2,3,7,204061199]),
 (0x22b559b5c816ae00f2378e18df38c5410ed597,3,[2,3,3,2411,34282281433,11290956913871,46076956964474543]),
 (0x926d1276e41fae13fdda5f78edb7802a76951509,11,[2,2,2,3,3,3,5,0x22b559b5c816ae00f2378e18df38c5410ed597]),
 (1531,2,[2,3,3,5,17]),
 (661,2,[2,2,3,5,11]),
 (490463,14,[2,7,53,661]),
 (0xffffffff00000001000000000000000000000000ffffffffffffffffffffffff,6,[2,3,5,5,17,257,641,1531,65537,490463,6700417,0x926d1276e41fae13fdda5f78edb7802a76951509]),
 (131,2,[2,5,13]),
 (71,7,[2,5,7]),
 (37,2,[2,2,3,3]),
 (9547,2,[2,3,37,43]),
 (38189,2,[2,2,9547]),
 (3407,5,[2,13,131]),
 (263,5,[2,131]),
 (126241,7,[2,2,2,2,2,3,5,263]),
 (19,2,[2,3,3]),
 (337,10,[2,2,2,2,3,7]),
 (31,3,[2,3,5]),
 (104471,11,[2,5,31,337]),
 (3969899,2,[2,19,104471]),
 (1002328039319,19,[2,126241,3969899]),
 (97,5,[2,2,2,2,2,3]),
 (29,2,[2,2,7]),
 (16879,3,[2,3,29,97]),
 (1297,10,[2,2,2,2,3,3,3,3]),
 (41,6,[2,2,2,5]),
 (155317,5,[2,2,3,7,43,43]),
 (191039911,3,[2,3,5,41,155317]),
 (151,6,[2,3,5,5]),
 (1511,11,[2,5,151]),
 (3023,5,[2,1511]),
 (127,3,[2,3,3,7]),
 (208150935158385979,2,[2,3,11,43,127,3023,191039911]),
 (2624747550333869278416773953,7,[2,2,2,2,2,2,3,3,1297,16879,208150935158385979]),
 (373,2,[2,2,3,31]),
 (311,17,[2,5,31]),
 (311245691,2,[2,5,7,17,29,29,311]),
 (622491383,5,[2,311245691]),
 (1201,11,[2,2,2,2,3,5,5]),
 (229,6,[2,2,3,19]),
 (9350987,2,[2,17,229,1201]),
 (187019741,2,[2,2,5,9350987]),
 (0xffffffff00000000ffffffffffffffffbce6faada7179e84f3b9cac2fc632551,7,[2,2,2,2,3,71,131,373,3407,17449,38189,187019741,622491383,1002328039319,2624747550333869278416773953])]
theorem tab_ok : tabOk [2] tab = true:=by decide +kernel
def pp : Nat:=0xffffffff00000001000000000000000000000000ffffffffffffffffffffffff
def nn : Nat:=0xffffffff00000000ffffffffffffffffbce6faada7179e84f3b9cac2fc632551
instance : NeZero pp:=⟨by decide +kernel⟩
instance : NeZero nn:=⟨by decide +kernel⟩
theorem two_only : ∀ q,q ∈ [2] → Pr q:=by
 intro q hq
 have : q = 2:=List.mem_singleton.mp hq
 rw [this]
 exact pr_two
theorem pp_root : ∃ g : Fin pp,Root g:=by
 obtain ⟨ps,hp,h⟩:=(tab_pr tab [2] two_only tab_ok (0xffffffff00000001000000000000000000000000ffffffffffffffffffffffff,6,[2,3,5,5,17,257,641,1531,65537,490463,6700417,0x926d1276e41fae13fdda5f78edb7802a76951509]) (by decide +kernel)).2
 exact ⟨_,(row_root (n:=pp) hp h).2⟩
theorem nn_pr : Pr nn:=(tab_pr tab [2] two_only tab_ok (0xffffffff00000000ffffffffffffffffbce6faada7179e84f3b9cac2fc632551,7,[2,2,2,2,3,71,131,373,3407,17449,38189,187019741,622491383,1002328039319,2624747550333869278416773953]) (by decide +kernel)).1
/-! P-256. -/
def bb : Nat:=0x5ac635d8aa3a93e7b3ebbd55769886bc651d06b0cc53b0f63bce3c3e27d2604b
def gx : Nat:=0x6b17d1f2e12c4247f8bce6e563a440f277037d812deb33a0f4a13945d898c296
def gy : Nat:=0x4fe342e2fe1a7f9b8ee7eb4a7c0f9e162bce33576b315ececbb6406837bf51f5
def E256 : Cur pp:={ a:=F (pp - 3),b:=F bb,inv:=fun x => pf x (pp - 2) }
theorem pp_big : 3 < pp:=by decide +kernel
theorem F_pp : (F pp : Fin pp) = 0:=Fin.ext (Nat.mod_self pp)
theorem F_one : (F 1 : Fin pp) = 1:=rfl
theorem F_zero : (F 0 : Fin pp) = 0:=rfl
theorem F_three : (F 3 : Fin pp) = 3:=rfl
def sb (x y : Nat) : Nat:=(x + (pp - y % pp)) % pp
theorem F_sb (x y : Nat) : (F (sb x y) : Fin pp) = F x - F y:=by
 have h1 : y % pp ≤ pp:=Nat.le_of_lt (Nat.mod_lt _ (Nat.lt_trans (by decide) pp_big))
 have e : (F (pp - y % pp) : Fin pp) + F y = 0:=by
  rw [← F_mod y,← F_add,Nat.sub_add_cancel h1,F_pp]
 unfold sb
 rw [F_mod,F_add]
 generalize (F (pp - y % pp) : Fin pp) = z at e
 generalize (F y : Fin pp) = v at e ⊢
 clear h1
 grobner
theorem F_p3 : (F (pp - 3) : Fin pp) = - 3:=by
 have e : (F (pp - 3) : Fin pp) + 3 = 0:=by
  rw [← F_three,← F_add,Nat.sub_add_cancel (Nat.le_of_lt pp_big),F_pp]
 generalize (F (pp - 3) : Fin pp) = z at e ⊢
 grobner
def tm (u v : Nat × Nat × Nat) : Nat × Nat × Nat :=
 let r3:=u.2.1 * v.2.2 + u.2.2 * v.2.1
 let r4:=u.2.2 * v.2.2
 ((u.1 * v.1 + (pp - bb) * r3) % pp,(u.1 * v.2.1 + u.2.1 * v.1 + 3 * r3 + (pp - bb) * r4) % pp,(u.1 * v.2.2 + u.2.1 * v.2.1 + u.2.2 * v.1 + 3 * r4) % pp)
def ev (u : Nat × Nat × Nat) (r : Fin pp) : Fin pp:=F u.1 + F u.2.1 * r + F u.2.2 * (r * r)
theorem F_bb : (F (pp - bb) : Fin pp) = - F bb:=by
 have e : (F (pp - bb) : Fin pp) + F bb = 0:=by
  rw [← F_add,Nat.sub_add_cancel (by decide +kernel),F_pp]
 generalize (F (pp - bb) : Fin pp) = z at e ⊢
 generalize (F bb : Fin pp) = v at e ⊢
 grobner
theorem ring_tm {n : Nat} [NeZero n] (a0 a1 a2 b0 b1 b2 b r : Fin n) (h : r * r * r = 3 * r - b) : (a0 * b0 + - b * (a1 * b2 + a2 * b1)) + (a0 * b1 + a1 * b0 + 3 * (a1 * b2 + a2 * b1) + - b * (a2 * b2)) * r + (a0 * b2 + a1 * b1 + a2 * b0 + 3 * (a2 * b2)) * (r * r) = (a0 + a1 * r + a2 * (r * r)) * (b0 + b1 * r + b2 * (r * r)):=by
 have : b = 3 * r - r * r * r:=by grobner
 subst this
 clear h
 grobner
theorem tm_ev {r : Fin pp} (h : r * r * r = 3 * r - F bb) (u v : Nat × Nat × Nat) : ev (tm u v) r = ev u r * ev v r:=by
 obtain ⟨a0,a1,a2⟩:=u
 obtain ⟨b0,b1,b2⟩:=v
 unfold tm ev
 dsimp only
 rw [F_mod,F_mod,F_mod]
 simp only [F_add,F_mul]
 rw [F_bb,F_three]
 exact ring_tm _ _ _ _ _ _ _ _ h
def tp : Nat → Nat × Nat × Nat → Nat → Nat × Nat × Nat
 | 0,_,_ => (1,0,0)
 | f + 1,u,e => if e = 0 then (1,0,0) else if e % 2 = 1 then tm u (tp f (tm u u) (e / 2)) else tp f (tm u u) (e / 2)
theorem ring_one {n : Nat} [NeZero n] (r : Fin n) : 1 + 0 * r + 0 * (r * r) = 1:=by grobner
theorem ev_one (r : Fin pp) : ev (1,0,0) r = 1:=by
 unfold ev
 dsimp only
 rw [F_one,F_zero]
 exact ring_one r
theorem tp_ev {r : Fin pp} (h : r * r * r = 3 * r - F bb) : ∀ (f : Nat) (u : Nat × Nat × Nat) (e : Nat),e < 2 ^ f → ev (tp f u e) r = pf (ev u r) e
 | 0,u,e,he => by
  have : e = 0:=by omega
  subst this
  exact ev_one r
 | f + 1,u,e,he => by
  unfold tp
  have hd : e / 2 < 2 ^ f:=by rw [Nat.pow_succ] at he; omega
  have ih:=tp_ev h f (tm u u) (e / 2) hd
  rw [tm_ev h,pf_sq] at ih
  by_cases h0 : e = 0
  ·
   rw [if_pos h0,h0]; exact ev_one r
  ·
   rw [if_neg h0]
   by_cases h1 : e % 2 = 1
   ·
    rw [if_pos h1,tm_ev h,ih]
    have e1 : e = 2 * (e / 2) + 1:=by omega
    generalize e / 2 = k at e1
    subst e1
    exact zgc _ _
   ·
    rw [if_neg h1,ih]
    congr 1
    omega
def tq : Nat × Nat × Nat:=tp 256 (0,1,0) pp
theorem tq_ok : tm (0xa969487079f1744798bf0de6fded091b66e9d328eb0645fe5d979d1339b7f47f,0xa4a08891884100c13323460107a8d28eede4387fa3e6e9bfebec9f6d72d0b5cc,0x4cde11cf86cb876cd59cf0115813c55af0ecd3cda667d98bb9a347a56aa74a6d) (tq.1,tq.2.1 + (pp - 1),tq.2.2) = (1,0,0):=by decide +kernel
theorem no_root (r : Fin pp) : r * r * r + F (pp - 3) * r + F bb ≠ 0:=by
 intro h
 rw [F_p3] at h
 have h3 : r * r * r = 3 * r - F bb:=by
  generalize (F bb : Fin pp) = v at h ⊢
  grobner
 obtain ⟨g,hg⟩:=pp_root
 have e1 : ev tq r = r:=by
  unfold tq
  rw [tp_ev h3 256 _ pp (by decide +kernel)]
  have e0 : ev (0,1,0) r = r:=by
   unfold ev
   dsimp only
   rw [F_one,F_zero]
   clear h h3
   grobner
  rw [e0]
  by_cases hr : r = 0
  ·
   subst hr
   show pf 0 (pp - 1) * 0 = 0
   generalize pf (0 : Fin pp) (pp - 1) = z
   grobner
  ·
   have e2:=root_inv hg hr
   have e3 : pf r (pp - 1 + 1) = pf r (pp - 1) * r:=rfl
   rw [e2,zgb,show pp - 1 + 1 = pp by decide +kernel] at e3
   exact e3
 have e2 : ev (tq.1,tq.2.1 + (pp - 1),tq.2.2) r = ev tq r - r:=by
  have e4 : (F (pp - 1) : Fin pp) = - 1:=by
   have e : (F (pp - 1) : Fin pp) + 1 = 0:=by
    rw [← F_one,← F_add,Nat.sub_add_cancel (by decide +kernel),F_pp]
   generalize (F (pp - 1) : Fin pp) = z at e ⊢
   grobner
  unfold ev
  dsimp only
  rw [F_add,e4]
  generalize (F tq.1 : Fin pp) = a0
  generalize (F tq.2.1 : Fin pp) = a1
  generalize (F tq.2.2 : Fin pp) = a2
  clear h h3 e1
  grobner
 have e5:=tm_ev h3 (0xa969487079f1744798bf0de6fded091b66e9d328eb0645fe5d979d1339b7f47f,0xa4a08891884100c13323460107a8d28eede4387fa3e6e9bfebec9f6d72d0b5cc,0x4cde11cf86cb876cd59cf0115813c55af0ecd3cda667d98bb9a347a56aa74a6d) (tq.1,tq.2.1 + (pp - 1),tq.2.2)
 rw [tq_ok,e2,e1,ev_one] at e5
 generalize ev _ r = z at e5
 have z1 : (0 : Fin pp) ≠ 1:=by decide +kernel
 refine z1 ?_
 rw [e5]
 clear e5 h h3 e1 e2
 grobner
theorem good : Good E256:=by
 obtain ⟨g,hg⟩:=pp_root
 have h1 : 1 < pp:=Nat.lt_trans (by decide) pp_big
 exact { hz:=root_noz hg h1,nt:=no_root,two:=by decide +kernel,hinv:=fun x hx => zhj hg h1 hx }
abbrev Q:={ p : P pp // E256.on p }
def grp : Ab Q where
 op p q:=⟨E256.add p.1 q.1,on_add good p.2 q.2⟩
 o:=⟨none,trivial⟩
 ng p:=⟨neg p.1,zfh p.2⟩
 comm p q:=Subtype.ext (zdh good p.2 q.2)
 assoc p q r:=Subtype.ext (assoc good p.2 q.2 r.2)
 ido p:=Subtype.ext (none_add E256 p.1)
 ngo p:=Subtype.ext (zhp E256 p.1)
theorem on_base : E256.on (some (F gx,F gy)):=by
 show F gy * F gy = F gx * F gx * F gx + F (pp - 3) * F gx + F bb
 rw [← F_mul,← F_mul,← F_mul,← F_mul,← F_add,← F_add]
 exact Fin.ext (by decide +kernel)
def base : Q:=⟨some (F gx,F gy),on_base⟩
def lineOk (l x y x2 y2 : Nat) : Bool:=decide (l * sb x2 x % pp = sb y2 y) && decide (l * (y + y2) % pp = (x * x + x * x2 + x2 * x2 + (pp - 3)) % pp) && (decide (sb x x2 ≠ 0) || decide ((y + y2) % pp ≠ 0))
theorem line_add {l x y x2 y2 : Nat} (h : lineOk l x y x2 y2 = true) (h1 : E256.on (some (F x,F y))) (h2 : E256.on (some (F x2,F y2))) :
  E256.add (some (F x,F y)) (some (F x2,F y2)) = some (F (sb (sb (l * l) x) x2),F (sb (l * sb x (sb (sb (l * l) x) x2)) y)):=by
 unfold lineOk at h
 simp only [Bool.and_eq_true,Bool.or_eq_true,decide_eq_true_eq] at h
 obtain ⟨⟨g1,g2⟩,g3⟩:=h
 have s1 : F l * (F x2 - F x) = (F y2 - F y : Fin pp):=by rw [← F_sb,← F_mul,← F_mod,g1,F_sb]
 have s2 : F l * (F y + F y2) = (F x * F x + F x * F x2 + F x2 * F x2 + F (pp - 3) : Fin pp):=by
  rw [← F_add,← F_mul,← F_mod,g2,F_mod,F_add,F_add,F_add,F_mul,F_mul,F_mul]
 have hn : ¬ ((F x : Fin pp) = F x2 ∧ (F y + F y2 : Fin pp) = 0):=by
  rintro ⟨e1,e2⟩
  rcases g3 with g | g
  ·
   refine g ?_
   have : (F (sb x x2) : Fin pp) = 0:=by
    rw [F_sb,e1]
    generalize (F x2 : Fin pp) = v
    clear s1 s2 e1 e2
    grobner
   have:=congrArg Fin.val this
   have this : sb x x2 % pp = 0:=this
   unfold sb at this ⊢
   rwa [Nat.mod_mod] at this
  ·
   refine g ?_
   rw [← F_add] at e2
   exact congrArg Fin.val e2
 rw [zex good h1 h2 hn ⟨s1,s2⟩]
 unfold third
 simp only [F_sb,F_mul]
def chain : List (Bool × Nat) → Nat → Nat → Nat → Option (Nat × Nat × Nat)
 | [],k,x,y => some (k,x,y)
 | (true,l) :: t,k,x,y => if lineOk l x y x y = true then chain t (k + k) (sb (sb (l * l) x) x) (sb (l * sb x (sb (sb (l * l) x) x)) y) else none
 | (false,l) :: t,k,x,y => if lineOk l x y gx gy = true then chain t (k + 1) (sb (sb (l * l) x) gx) (sb (l * sb x (sb (sb (l * l) x) gx)) y) else none
theorem chain_mul : ∀ (t : List (Bool × Nat)) (k x y : Nat) (r : Nat × Nat × Nat),(grp.mul k base).1 = some (F x,F y) → chain t k x y = some r → (grp.mul r.1 base).1 = some (F r.2.1,F r.2.2)
 | [],k,x,y,r,h,e => by
  have e : some (k,x,y) = some r:=e
  obtain rfl:=Option.some.inj e
  exact h
 | (true,l) :: t,k,x,y,r,h,e => by
  have hon:=(grp.mul k base).2
  rw [h] at hon
  have e : (if lineOk l x y x y = true then chain t (k + k) (sb (sb (l * l) x) x) (sb (l * sb x (sb (sb (l * l) x) x)) y) else none) = some r:=e
  by_cases hk : lineOk l x y x y = true
  ·
   rw [if_pos hk] at e
   refine chain_mul t _ _ _ r ?_ e
   rw [grp.mul_add]
   show E256.add (grp.mul k base).1 (grp.mul k base).1 = _
   rw [h]
   exact line_add hk hon hon
  ·
   rw [if_neg hk] at e; exact absurd e (by simp)
 | (false,l) :: t,k,x,y,r,h,e => by
  have hon:=(grp.mul k base).2
  rw [h] at hon
  have e : (if lineOk l x y gx gy = true then chain t (k + 1) (sb (sb (l * l) x) gx) (sb (l * sb x (sb (sb (l * l) x) gx)) y) else none) = some r:=e
  by_cases hk : lineOk l x y gx gy = true
  ·
   rw [if_pos hk] at e
   refine chain_mul t _ _ _ r ?_ e
   show E256.add (grp.mul k base).1 base.1 = _
   rw [h]
   exact line_add hk hon on_base
  ·
   rw [if_neg hk] at e; exact absurd e (by simp)
def steps : List (Bool × Nat):=[
 (true,0xa249bcb3191802d3cb56fc75a8731f848e7b2caf080f3477a4e4d904a671af9d),
 (false,0x28cdb0fe6681d140c59fb73f85f16459ca4cee083742bada762de4ca226a8086),
 (true,0xcffdb37b9cade05fdb719f4ad73b00878ccbbf536584dc9d3ea8a8ba9b0101fa),
 (false,0x263ed41ea861f1ca204b14e1f0d011cd0e8fb627edadcd985f023d4d5778f04b),
 (true,0x4a9ab06359263e9d745cb65a2c51ac731df3819a1bbba20efe18e198a5073626),
 (false,0x128b6f9e4c2d20dd1c835cc7f66be8db8ff9d9219a5ab381e3caba4bcdba1e28),
 (true,0xee94ed8ec4ec9cf7d5783b311431460ded97acc17a52f66463d4c9bb3700a939),
 (false,0xdf4dcdf197a43a2b9c36c78e873977d4b343639b2e433c3bfe90e51f5c9b285a),
 (true,0xa2fcc0c49c6bd1f85e9581ce9fe2cd015b8872623d1fff57033c640251a7cbbe),
 (false,0x139ff3dac1e93d75e011d03298a3ff6029e02d520c8533763d312c080e234711),
 (true,0x6e72a7172a1a03414085f7bceef9d68636f5aaa49f314a816ffc3dff570bd3f8),
 (false,0xf3149c43521ae070ef9f9c7a47dbc3d1d24b9274e372754470e317e216722aec),
 (true,0xd75102e923058adefa0b17ace9f2d4c13fae1708852f13571b5fa3f3ec2d62de),
 (false,0xb2a061b9fdc7e4c09aa7077dc9f0fdf019db0403223604388da73ef5539debd4),
 (true,0x654834a2e2af3b79968f41d26da517933bafd978d26f4115a21f5830d872938),
 (false,0x9dc47b784985700fb7a52cb05ddcd545b94d16ebd094c3fa42f8dbeda0bfe17f),
 (true,0x71085602eb82890f7d3cd811c2963cceb5ca70c582593e28b863722aaa07a1fb),
 (false,0xb09f8cd575407caf3478f977dc6b5f2c6a71b22ff0893477cdee565f2cebcfd5),
 (true,0x67946c57b86ac9a6e80450f2e3597bccf640f6185ee79940f5a625a8e4c879f2),
 (false,0xb566183ea2d5b39bc67423654a35d891063b8b930fbcf483acf4f98cc146c3db),
 (true,0x5d4d2b08ca29d06b1e91d8cb0ffda22776ecdd98f6fec72104f111b2b2119e08),
 (false,0xeadbf028068cb1cfed2ebe58e30a9fac3e0a5a97e14f18d39701cf8ca85ec412),
 (true,0x243086982526beddf165d7c7dd843b0c8310293f9b484595886055124d708d12),
 (false,0xa583e21e3394cf9c4a0abd93b1e31bb7d236cd9b3fdc0e84ad45eb142c8fc38c),
 (true,0xbdc136492813ea8079783f030bd3c3a0d31847e13f7a73f2f0efaed523c44141),
 (false,0x54e743c09616567d3b6689cdbfea23ea00a3bcd83530b235106f501ac0d31fdd),
 (true,0xc66d4e79577249817ba7c57aa94163a6bfc66e835ab0a6526ad43ea8449ac457),
 (false,0x6ad479dbf6efeead3628b03add66c56066104cbeda0104a48293abad736e7a41),
 (true,0x4cc05eb2acc0aad34fb161616e8bfd366bc3d41c23cc8ae1096e30b81801f330),
 (false,0x525a105aab502639ad9f878c575c25b358ee89a6e04c6fbe405aec0b7654addf),
 (true,0x284437f876000545dea5703645ee881b3a8d7b04aab299eb6c09b5054a254e6b),
 (false,0xa5fabd5377693f33a085735ab94bf69952f4529c736ba053ca859dcce3a8fdb7),
 (true,0x2813568f5abff13313c5340457708accec976f62ef393311bd353c2a238284a3),
 (false,0x4b0a463d6165cc6fc04737371afb8eac19cfc9f4751365ad16cea71c8b62d318),
 (true,0x1b52f500994f1dcceb5a870bdcffe30c214e88437a77665dd539562455ddd1e5),
 (false,0xd6a38c0883e753e4516344a374c85aff507ed79c9a8859df0d03349af96e6436),
 (true,0x4377358be4ee9640ad1e7d0cf090992a8fce9d7728a58f67c21981cc59655153),
 (false,0xf3c94434e06496f4b2b2eae3bd8bbde319e6b1fb3695fd0e8a1c42131d18baa9),
 (true,0xefb7da29c3bd82b499aadd4cdc78a1214f6edd630fd9718315e31bc74bbc9056),
 (false,0x4e5208148916e43948da89a50f353bb8eb97fba1132ebee63901a8af7ea1bdb2),
 (true,0x43dadbc0d6f8abe65dd0dcca4402e686d2584f73218e9351d17721dfc893079f),
 (false,0xa3171eec04cc52f999e0a54acd3f9ec496a353be1936f2b06143f845f22cd108),
 (true,0x6c7d74651a3e37bf5016456655c38c27593426f589e8880a7cd3848c0313190c),
 (false,0x31a29b4c16c9a43f18e46e88c83ff6b0705e021672bdb99585b922aed92210f4),
 (true,0x8b74df76665aaffb07df4fbd2b5de2605501659fe298375abf02c40f1b735b),
 (false,0xc075473d8871f96612ef73d217c07749783f442127aa53a98ce3650adfc86ee),
 (true,0xb6ca6062da1151c14a2b116619de885cc425cbe04647ed540a7e31b3f6730f50),
 (false,0x2b7c670959d65987fc33689412f513d2ef968968fd4868d4fa9d2dd2285f75fe),
 (true,0xd8a0ed8b212dab2ebda53bcdef61b3168fff5e154f8c7ab117c8742ce4c2e5c3),
 (false,0xed242ce6ddacb546677dd10b7d9c6c3596aeb134fbcd34245b22f043e35daa2e),
 (true,0x31e29fa3815f4e097d826dbd06183813d18401f39c4da95f8cdda4b6f3d0f463),
 (false,0x8b0a18841ee512265744bc2f6136524092d94d19154c23b252f8968c33791d73),
 (true,0x94240b818cdecfeb1f9cf074d0fbbcbad85867a42f247b6feefb7dd49c2b2d5a),
 (false,0xb63d8c8565a87d9e9ff9c9070647034ffaebf267539fc081779bd268666cce8c),
 (true,0x829c9110290c5ff26c90f3f622c9d949793cbc101de848939aba934c13b01137),
 (false,0xc4385e9974f4969b74fff85bff56e4e1f56eddc111b07dfa7f6f85db8778bdce),
 (true,0x2f87bd70257f23bded3904688f410a3b4e35204b675dd8235c604ed774a7564),
 (false,0x718667184217c02271bea353f8ffb3a4511c8b6a4e226a63e8376a28651a0abc),
 (true,0xd8f4d1b39cf8c94525b7676963406dca4f7e27f76ce5cb840512fe2b0c79d8c6),
 (false,0x388659d985e27ecada5fb911ce8317c492f72af35917ba9393bc7c006d1ea458),
 (true,0x17434fde6217cf23513fcf320c85f0772c06945a80e3eaf49da08e7360dcf7b3),
 (false,0x460cb707eb68da47b8e16eab34d15ea230501076d6d35aa08a5d8e0c2745f5b2),
 (true,0xe7289190fbb5a7d7d62b51d40f3571670d41439c83a980a6ebf0c77129c5ea30),
 (true,0xc0c0f69007425dc498074987e7b1b2cc32e5edf753f84c8d1e31e83a7f4c1fef),
 (true,0xe2266a64fc9e96910bfcc391499f69e6e3862cdee724bf5f53e52619a78d636b),
 (true,0xf7be988964ec4116f418581f98955a9ca415e34883c7a464aefb4b965b9e49f7),
 (true,0x4eb34c79827117c2632524e9f4d02fecf1eede4cdbedd17bc9b364e5ee04dd99),
 (true,0x53b963e0e2a551f86b7527b4da6ce25b70cc5b23592b9b7b4a6768e1eb9eab20),
 (true,0xb8f8d77f98b07b91a739fe888ef94517d1e11ec5ae46114d5d9fcc91b1494e2f),
 (true,0x856480bf6645295b7cc166fcbf9ccb4213ca02b689e6a51515b002a54653b436),
 (true,0xe5bd602b7c75efe5dd4bfee34f6d5f15c12502dc3d6a454e8416bf7262efd14d),
 (true,0x901938d044075d035fec1e3dcc28585a76a2c4f101473d40d33faf2d07a666ef),
 (true,0x225568746c8026c61a929d9ee21cc8b663b8b70852d3eab403172b36db27773a),
 (true,0x730e7f0e730508b34af19c004afc304711f461a3ad85aa214506bbb2d38216bc),
 (true,0x61bcdb4b66643b59a748a3260de0d150ba66d53835998a7618465429d353b8bc),
 (true,0xc9651e62d6774d6d434978a729e20c44dbdf244c051785d459e9d397faf72d77),
 (true,0xd5c0e76343a81b2fccebfe410ee5f059d6813035f76b381d8a4c32004e356535),
 (true,0x33ca08f7f6caf3b2bc2dd0597e53765ce9a3a459a2d6ec8c14fd62b9829c8036),
 (true,0xe3d88474bf049aa8c92e117118d8ae2192be22c3afc88bbb6d45984b246b29a7),
 (true,0x48e767de0f22738d95a0cde900e2811f059cc9b0b4d8f7c6662c971f6dd8540e),
 (true,0x40ce2d624ccbdda2181d7203eceba6f86c74ffecf1099f60709afd4e366ad7fc),
 (true,0x7ca5a95dbd0f238188c92bc10fe3120ca5cdc8c94f5543f619e7b4a285fac63),
 (true,0x1695cb9add979f9b44bba53cddc3af6ec9a9ada1fcecce7cc21c53ebfe9bf13f),
 (true,0xb52ef301be713cd3721fb2eb26e9651c62dbd5611dbf05a2a082290ba0205c5b),
 (true,0x477a8d7b28feffaee439432c1cb34e620d2b28f77d7a02dd8f8b7b25da055f0a),
 (true,0x3df23d02be64203da86b3586f55929b44d3b721a7d42d1f74c2790f568dedb19),
 (true,0xc4edab784cc66e9dc3ddc0a1bb35098abbebb6da1bd0379f4f35495b1810da1b),
 (true,0x88fd5e6ed410c082c3ce11a91fb70b3f67e4a7765d05e18d7f947b38ca97f419),
 (true,0xf20a57ee70df07d6ce91f0bd0a46160e3a6c07e71c958c66141e21069158d350),
 (true,0xf1fbc80729ab01a5ccb119d4f3c345cb8f969116d59a28f5bc535098ecc8e08c),
 (true,0xb6f56f88616f73e59cd055fedf26a4e7e9b7d3805a7210f8280ce5f968813bdb),
 (true,0x95293b8c9d1b7cbee1c6a40dddbfa08124cd4c445226188841a5ce723091ed70),
 (true,0x5fc30199770d63f9306b8eb5b70c590e7a78844d7f32b7599bffe25242913afc),
 (true,0xe6f5915845524817c9b060c18d8b717cac8fca080e26cbcd288bf75a7faab605),
 (true,0x5964c5233f7fd444ac5e95e0039f0cab6fa80871add7e1b32f0a722a6608889c),
 (false,0x61c1c5729551026465e86872817fa89004a45e0813e30fc1237459192e8e8453),
 (true,0x8460b25d97666448b4ee773e3ce03da44167ca15403443c4d7e670a9a4b315ba),
 (false,0x478a8ff8452f55219fd84afc9dba9fac16e3398758d27227159931dc490e1442),
 (true,0x7c42153ee71a4514f3f19f3fa1cad7a32365dea4ba9f93aabd93f08ab8a84786),
 (false,0x639d7d5deda2352a0b7c2599f12f386ffdd28b6e7dd40da1362defb479d8e4f7),
 (true,0x51a714c9715fc3a540606c432dbb85c5a5dec10da8af3080ed323d44e0b53803),
 (false,0x5da15f62ff4d7f2a8924a8c455049df63f9560cad7b50667a651e3b2a901d856),
 (true,0x5f44fa9e56759b25e964f702cb194f3ebe9ea41bea10a3b7fea63fb8ff411f7),
 (false,0xf12561045e09f40b3809a0ef2d8188c5e49b758041f336acdbdb5278c5c392c6),
 (true,0x37eb0347dbf7edb778e2a3b5a46ddd1c91217ddfefbed72597fd6bfc3ca1869),
 (false,0xdb3fca3894da5e578b3ad138f65339198c4d381b1a80c381e7fcab38dd7eab0f),
 (true,0x773de71b6121815759112d10accaa17f10a18d46fe1a330108cc5925d8f3ae2e),
 (false,0xe4b5906eaa901a1d95ae0f1ab598afaf50a29a8d8fbb666d391ae676d8262bec),
 (true,0x9d8f6122b4fd1e4eb628f3bb15c795fedd109336ad3106f0812fbd8051767234),
 (false,0x5459395436aa40d27e387fab3cd70a9cb0bce690a9a48b32f26766bf92566839),
 (true,0x63202e522ddf7de3dd735dcdd91ca51854212e2ae81f582fd2ead066ae75f9bb),
 (false,0xee71b88e219f44dca3f678809ab2d97a322e5fdafd9435140294e9e8447b56f3),
 (true,0x3e417d778cd322d6f978a0db5d4f2c18ad0902cc627cfa4c2d8b52046c0544b),
 (false,0x809b1c2f13cfd8dba8e804bababc0e1043ce348d46d2176ed04d6911d42e8721),
 (true,0x4ec5bc0c0e0f3139f8c8f3d6583bd0764824d993206fc155b8e5ebe00b29fe4),
 (false,0x9815c79a7f234c32deb92fba0aed60f779be3b6bd49b28f493e6ecfd8bdf4c24),
 (true,0x1f3ebc201cd768dc2bc133aa802452a89eb99e5041fc7a14f07001e4b8cea7c7),
 (false,0xfcca2c6bdad1679d9dbe37c4d31cbd7f396c38092d0800fa0208f087dad176e5),
 (true,0x5e49ce521dde3639276fc58c8748a9fb9ee3cdd8c3b0abbce67f53dd15a1578b),
 (false,0x3a40efa7ec56fc2dfe613300c5d4ee4991c5dadfe7bc47bdfed7764a304fe1d6),
 (true,0x653fdff321429d38326f2335659c66d972471a8e8fdb3dc77085843633fd0753),
 (false,0xdbad9d15f0a229d3058c5e2e98ba0bf86105c77b8a9812e44a1b26039c889a8e),
 (true,0x854b6e8959a21a0edbfb3850a3d4896a01c9e6ea251bf86c3bf9241a72d455a4),
 (false,0x44f463287a3eec0e0484928cd78afdf2de081344b5416b8c156104be785a3758),
 (true,0xa6a59f0292e60295ee590171982f2037efe67568e5706587dcd8a66584dac1a5),
 (false,0xaec1439d29c41c38cdc0ce57edecbaa368147691af306084f8ba62a7c4915864),
 (true,0xbc8b0845cfe9aed26c9f60a85e019fe3f7e48db3549398b43df5ae0951c1355b),
 (false,0xc7279534f7cf0f95a613af86e92cb67659957853b00cdae5883ae4f1c075a1be),
 (true,0x5d61a9453ce7135dffafd041adc1b59008d67875795065c3172eea89929eaa54),
 (false,0xf6055fb25521afee85642a9f773bb086f0c1941e70565e129cb05c977ff0e37d),
 (true,0x2d128447b5631939a736a8bb8134d8863692f8a0e79c620f553c17fec17e9d96),
 (false,0xabd6f315532af98ccc28b5ae43dec19c5cfcf0a7fa6c89790223c74ec941e626),
 (true,0x40fdd352bc4e5ce83fdf7337568a36a3df13fe90f4a5d975c4afd0989bc8519c),
 (false,0x7d20ecfa7d042ef0a592b1e07356346319a753353d45485e8033c242f7e9dc9e),
 (true,0x4189983cc2a433e32e4c0ca067d18c8944722d6ff6e38f3c56c4aa36b977294d),
 (false,0x29ff66ec7b6e5a74ca03fec0af64f196367c6774775cfc6faf0ed7c046d132a9),
 (true,0x46629eb3fa845294ea5d0fa1a880efeb13785ba7987da34cb335911711e137aa),
 (false,0x3067c9164c9b7aa37d5e7ed783e9037887217cbe065d17921982b51dc5330ee),
 (true,0xc7e12ee3f202c1de5ea8a9d7c3b05092f5e5c4a547f4e08921515248658133a6),
 (false,0xd709ec48d575919de6d0171befa8b7028c2f4ca4e887f34d51d33e48dbd75ad5),
 (true,0x64b18e8a4a0c7556ab21b3d79dfc563b23d21c9601d35fee21c74f651bad467e),
 (false,0x484566a0c3fb005cedc6a41ed31fc0badbdfc75f1911c2223dec54b831ba6454),
 (true,0x5245eadac0e0afb5c3228f70e522c85905b158633c182336c1ad3c398752d2e8),
 (false,0x2ad2d961786f3a17b70d8a977c0602a72cfaa3c4b90193f6cd821ab75a14836b),
 (true,0x50889070d4b8be7ead191bd948652723472319dd8fcc42db026e2b2985eb79df),
 (false,0xb564dd2cb5ff61058812a2409c78aae02758a1ee436c866ff58fb2e0c38942a1),
 (true,0x3b217b5656dafb012ad0c023c94bf3306ab216b14acadad420b2211391ec095a),
 (false,0xdad3f98fa86c4e19da03349606326dcfdd57492114a8525cea3c37324380d453),
 (true,0x217dc061ba548d72e877e8cb2df643945fd7dd2d4cb7d7ae9dbeab9a2d5169e9),
 (false,0x6f0a221a784ebfef4b32b8ee0109b7e502f5bf7b2bbb8631ab6bba6d8604b9aa),
 (true,0x62d81b3c0de39523156d1ad19620579d66cf4d7f0f07ec6deab93744c2944a05),
 (false,0x830b523e84f9babeb980ee0b74403d685323cb340050fed6bfda26fcdb01dda0),
 (true,0xd31ba3db40bc0c8b2c28e55ad18cbf17a49feeecb9ef04d1905ccbd45a40d462),
 (false,0x37d9292a32242d74cc4f9fdfc310b24c9e8ab0f33bb38c947d82b1292cb00759),
 (true,0x1d84b9edb57b729ab2472b66c23924430e9d65d34a3c606aa4ad37eed84bf2b9),
 (false,0xb48bf2421082f4f3591c1c86f551efbfc350bd3a18992efac88143a10bea9728),
 (true,0xa088d1b1fb4a7f3b03ef3a9b1e64cb0dda4d656ff5f6578c8b1fb5a51ad5cd94),
 (false,0x6ab30d979c2464f41b9fbcf7e91eee34c420f538e9037918c84a61dd61f0d7a3),
 (true,0x2b533d0d75373494ab6e521e47c78b73ec0da04ed717f1dd6289e1ccfb6547e7),
 (false,0x3e297acecdac79e931bda33b557c9123e52e67c25eb649f729aa499b32c3fb76),
 (true,0xc2c2b29302de61f333b9071e80019135337978c83e5c47c690473b389bb766bf),
 (false,0x7246f7622df4d58826e42e3ade176078027b5bfa2eef8aba2acebe90d4e136e2),
 (true,0x1a352744c2fb61ea03ee26821ef3875a1acde0022e6424b556e7a836721147b2),
 (false,0xa458cae360085939b66d142d452c78ac7b23e303947f09a53eb7c7ef5439029f),
 (true,0x713b180aac5482ab29c14d427cb4dde223507b83d32d837f7c193abb1d723e00),
 (false,0x9ce4f6ff4d307c896bd381d90ac8f9dc97c371a1d3b97b9c5f0fb4a2327d7463),
 (true,0xad97f5406c3006d84eee52776ffe7ff9d70f633d97e7cc97df6f722dad3e2adf),
 (false,0xe281045fc4d097401efb73faeec5f0af95960ab95087f8e7c3c58d3104ab674),
 (true,0xf0157ff7fbd17aa9fddc052925780b70883b18f724b26d2a12e9f8240ea4aebe),
 (false,0x704fb443db452ee548ea0fa17e3d4c019f9a481c7e22f9d053c74b26351c5ea3),
 (true,0xfc4ceb3ab4b6dad9ab874d06bd698ab4788626cd148a3ed0a7dd1000f05d3390),
 (false,0x1ec1474356b2c209d207f2b9e92b664ba0a18d9fa2ebd81be92ec9c4e96cfee6),
 (true,0xc7b5f67bd272579f252611c06095ac4333816f15cab71e15e9eaa57a05b5d567),
 (false,0xef312f78d5d355ef6abd2644b85c40eb3838d876a652bd57fc1df6fb5dccec63),
 (true,0xa6c85074d081ebd26cad9a9be42b93b4873a2f39c80159778e7e7a509f501584),
 (false,0x12fa762bd6fc32a80195703ad8441d84a93d1bd3df352f9d3811420344ed83c6),
 (true,0xdd9fad331f4688e61780363968dec51d7959e732bee35ff488982a38cad65450),
 (false,0x759bcd4ff622d64155894e13dc271f8674d786e909b871aaf4792ec0b1e80530),
 (true,0xcbb01a264f61795ccb644cfba7b53cda27f0d7b5e873c9c66205689584db505f),
 (false,0xe7d43c915c1b508541cc6bd2fc3b89172338f15760edbf2cfce2f3f9f697b893),
 (true,0x96bbae020ab6bf67f718f55930b52dc52531edb3206fab791aab5ddbf26dda45),
 (false,0x6179d623ddf9d9543492ca84b223ea3dc6d08c8447369007055acd8f958d7524),
 (true,0x26953612f33eafded68613cf9787e67ca15ab0dab5469ce653a87cbf9056434e),
 (false,0xd63f1663f4dee99ad58e6838d1f03fd82a9edaf6bef7f178fec8ea8f133f248d),
 (true,0xc5f4f06025a5a1a928e3b5fe2b3299987396b2e47823534fca1880f7f49a2eb4),
 (false,0xe2e13b006db28064155463f545792b1533776183de7d6df2771b48f6ca8071ae),
 (true,0x36547bca0d7b07ca5e94df1e63bada960b17adeb0c4524923fb2a75000f4a6c0),
 (false,0x8c0699a09e743a480ec474322c34371c4582b089e6b08c1e6b4269928126daff),
 (true,0x89416f8257097c6711519aaa2efc5423d887b0872e069b42b7d1ad504f4c5749),
 (false,0x9ae45879eb8bb8dfe1bb90a38b457828d0674e16cb989ede2c97cb54e965abde),
 (true,0xac1bae86dcfdca39f4900764740e00ead746c482d89449840a0a2a3fb9f9e52e),
 (false,0xb084270cf3fbf2b1a8eee49509e96351199fb079b4c26e3a353638ae6d5bd967),
 (true,0x37e805f5570746ebac3518187a955eabd9c2075e9fa00c42da50f9a3dd03c452),
 (false,0x4be2d84b6688417fd23d48e4469ecf8cd1c19a4eaabddf08cbb0773d3621b37b),
 (true,0x9a50d4adec52fe7a80a0e78a3a0c66ada45c26178a6f0f31718a179db67663cc),
 (false,0x30a03bdebb180a74080c63de9ee8a25f3f02fd9c06f8fc519895f1431dc349b8),
 (true,0x63bc1f5aeabe44e3ffb8802ebdcb5c9025f920bb683a783b6bbdd351b6e866d3),
 (false,0x63ad11c27632cc56103390840a7f5b185c854a5414762c01c9c7f26d4cebfe48),
 (true,0xd06f3fc4f9acce6d10868ff1419258fa83a2c1c01af09415473f6260d4884df3),
 (false,0x4615eee0b7bf836e6cf1f766269f4bcbb8bf20edd37392fb8f4dc4f5eb370ab9),
 (true,0x33eb60219e4a075a652a37d74c8310564b9934640ce7c31337908bd23a23f450),
 (false,0x4da6208af3ef851ae22f71ffc9ae90aa5b4f1cddee9a551f8c343fabb66d8cdd),
 (true,0x51427113c9caee70f83cbc4ab26384f91359fd9e731b734fefdfeec44c857450),
 (false,0xb2bde25d032458f73f1812c24480763833712829f0613b18c2b7a509e4bbfc03),
 (true,0x8422412a60d5268f30e0c119e1b3d9551abd8b36fc943bf320de5a178ecb34f5),
 (false,0xdf0a9f9fd331ce48f0a4d19efada5a41470dd7d04e335eb0834741226d416abd),
 (true,0xe899dea1c6672ea3d24f9715437027b61e62204a5225d3a45d0e2152b5d6502e),
 (false,0x2d4697e999699090805abea55f57d1857e0b682b6003409797c1cf90e4ea0655),
 (true,0x27cf1299aff30f21fcf88080f235a8314b29b990e031064ab77d641e4615f130),
 (false,0x5530c0778bb35a2a29ccf1dc04a750e19f0762ff238c6b208bf24510faa26933),
 (true,0xc4ec4e0f48f90f1f83bfca7fb5637a4d633093a4ae38e9fbb4b9a71af1ff93c8),
 (false,0xaa901b5d5c6e84637cd6e9572b01a784c417d839fca51ec2d0095378e3b7fd4d),
 (true,0xb3d30142946b235b156037a70d4b12d6b7c7c1141a05b65726bec907a4ea4c8e),
 (false,0x5b1836539da60734aef7cf9426221f2b92f2f89527c11e3ed787d2499b2ccad7),
 (true,0xcd5722b4f57a0a76a3e480571340c8491342f649808af45fe6fc79de2c63f3a2),
 (false,0xe677c4797eeb7dcdb2efdb896e958e830bfb8bf11a8528773f11ae820d8616c4),
 (true,0xe8adb13602b551162b664443befb21d192efa2d231a14819f78a74a33ce3dfb9),
 (false,0x44237d48e70f402f7bd392da6f762126b06ed09085746babbfc66fbe8b1c9558),
 (true,0x643509a85f6154b200c1fac7df310f9238debbf7803cdad43b1995efe25ad36d),
 (false,0x89e1033b12996b7538dd0621e681e649a653e6766f3f84ced6de083adaf8abc4),
 (true,0x8f6e8751eca903eb3c43a592523da2fe1eff63fc7dec2f429e8691e16a853ab7),
 (false,0x9b06d815524722be5a2b073edf1998085767a4172caa88f1acb525aef593b31),
 (true,0x7bbd682ca56c620e51834596d63c8a983bd853d89d0ae8eeb7a9f016e8db674e),
 (false,0xee573a463fe1860abc24a110f9b2e08a16078b37421dba5742987bf411fe6227),
 (true,0xf20d44963937da1dfdf6dbf36a5adcfb3b8fab44d9efd9b04e8afa0421a9649),
 (true,0xc544b2a309280f5ae580d5d923981c523b647cf5dd806567d431ad7de0125b0b),
 (false,0x5742068b3c41c8060e2c2aa80dfc36e78858b543d45d2b4d7499c2e167a70718),
 (true,0xa214807ea4d5268c185ac41a9c76218a7f21848dd6b0b1697b02b53632550768),
 (false,0x31bb825022cffb086f0068bd8c7e3717f1b45db18de2fd32fe6f58c86f526ce4),
 (true,0xc5b005dc9624a5e46ffdbd3d9759ec611fb2fe356615359d8356d5fff090beaa),
 (false,0x853390d015eea820168779050539d42f7359dbb417d14f244ccac48b81c2fd5),
 (true,0xaab65e6fe897ea1ad3dfcbddb8b7a367594e5e7e30c97b36793c1a6c82a1b835),
 (false,0xdb2a7f562289009c9e02b5aa11eb2f760db14a82321e27b205c65c1439477462),
 (true,0x674be996a79b1ffa91230f8457289247595753941f964900da839dfeaa64d097),
 (true,0xee5e7e6600de627f082365e48c6f6688ca2c9ead6d077753c293089bd937b41e),
 (true,0xcd91cc334db87c39c7ce70cfb2f30b7c6860531fb6369667b92df117f1189eff),
 (false,0xcff456b304ea94702d684d39ced34049bd9d5357dda0c185d41fdcfbd0988ed),
 (true,0x565eedf299d52cc550a5624317569fca97463e2b7d767ad9747a2a47e7ff5801),
 (false,0xf87546dab0a4b858e0eb4463786516d2f39b2118586cd3dcec09521d88d735e),
 (true,0x59ce58d6df6bdcbfed6259ad846ef25274c80a9e0967cdaadc98ef3d8d088256),
 (false,0xbfa25b7e28cb1befb3c193f4736e4b565f3e413b9f0663425216d92eb3b50b26),
 (true,0xaf4aebf985cfa16ba0a6d619d9a6e023514f5bb08c62d76b0420577c88407f52),
 (true,0xad5555a05bce9b2281eabcab4e0aaaf83beca658b0c6b730bf3e204f948e8da0),
 (true,0x483de7956274d82c64f1a4dc18fccd7e45b35343f872e56a8a8bee2d07c8d126),
 (false,0xe778ddf181d23733afadf1f9c113e2a0b243a16b64fb43e8bf25d3898b5567e7),
 (true,0xc916486aa2bf7c53b29a7b4d115b7b6bc3c450596c7239266c5ed08687ca85e3),
 (false,0xf1227496848bdbb46a38e581db05111cb4cccc61670d57f86054f51bdacfbf7d),
 (true,0xfdf19e286091fbfd0f8b35590a1ac9b2610956f2bb6ac4d2283fde34415298b7),
 (true,0x9d7977fc6eec61798c767a937ae06f3f5657bbdfdd64a90b7cd5a3bc48b583c),
 (false,0xe8ee1f16da0e43155e9a5d5c495695b4b837ad1084f3c8d2c12a93c882fc4af0),
 (true,0x63d5a27d4896b73103d1f9742ee5aa39c4da5924885965e0b8ec8f06163c238a),
 (false,0xd5e751898735c1123f6b2f43d906a46b0882f0e02aab74158cdb5f9893e31fdb),
 (true,0xae8c00106c46b6185f2774b74448888bdd241ff44e897e6d216cab541aa90ddd),
 (false,0x1bb2d91629a2a20a1ec44ce2f9a8a12278c44a17f5040324eb56e6949c8a70ca),
 (true,0x26f074ea27551377045b90e26a9e4233ebf5108089d2c3cc297c877cab949662),
 (false,0x2e414097da6cee079e57f140a706f365f5351def5c73c3402058a8bd7f0ceabc),
 (true,0x87724892c3bfdae63a7fec2b38a58cbb4bc309528a2ffae7083db48e8abfebb2),
 (false,0xe0602209efadbd6cd456a2c0de310e56e7909a665222431ab28719eb42336556),
 (true,0xf2e52cb7a0dbf5b7ef55f9954fdc0b324a0f39211cd3744d0693b7cb2962402a),
 (true,0x913748f5f4ebd40ee833087d5f049a3160d91a7e477ef3d255ff1d5003941e44),
 (false,0xd869a5a8c422b38a22406440fe94b20df7c47a43022621f65b97edd467d66133),
 (true,0x7c8c145d701e464083f094c760cb94ce22e5c4c127ef0034d1950df32fb79c33),
 (true,0x35c60f1a836092c74a628eccca0bd064ab49bf4039b700d3e48b339249b78f83),
 (false,0xfac57d66161c5a265e954584676cf009af396b7628e79f6a7b7f06d5dea19871),
 (true,0x64d0d38d31f6655d7305cdaa081f8b3588f2ee7037fa56584ed2c138efa37b6e),
 (true,0x34c0b6e689e3ebaa4a2cece3b57c7a923ef24ecb819a1795b6aa6193fa78ebcf),
 (false,0x5bdfc3e016bd14064129e7dafb01e78823999963ff47331b8a4f7cbab25aaa56),
 (true,0x50530b13c19734d2d6ad228cf66c39c9677d257ecc18618bf6a5558276f01e9e),
 (true,0x2d7a7768d68344da1688ae6dbff88c6780cc1f46f6cfeebe6948d084a1fe433f),
 (false,0xf5173752f41f755ddd667d0b71e575d364541f8d737ddb3dc589b59a6005c4b),
 (true,0xc816e595a34f787c9029049e3fa6f83055c0e2a6ac9a34a0bfd611cf94593802),
 (false,0x2f8b62ed76f589fbc3533e687452a34510594fe624725f54fba2af927445d1d9),
 (true,0xe49459c373c5dba80edde36f7347197dd8ca4cb493790182f5e3d808c610246a),
 (true,0xedcb40b3507486f3f28953bfccc450a88bd60d32f3732f1f0ce7246d95bf2b27),
 (false,0x1e7db4945ceff091770564084b5133a757d118c5101c1afb7599a7c039e2ad71),
 (true,0xfd8f2d77d352a10feb4af848bcf7cdb517b5dd5fa59377ef98cfd3aa76801669),
 (false,0xccf22954bc142e0ac8217aede886a51813ec27c584eed803c8aec458c3ff8e2c),
 (true,0x4a370ec9fecf54b22643110841d65d9b9a30cfe56c3ab2a83ebd00265554fcda),
 (true,0x26021cd70550e8cdba42f3e607e8d47fc17e9f01548cf8991eb7ea0920d2a1e2),
 (false,0x2def9b7a035fca5c5ca4d2629525aa72cd247734826468a96100c57d13b620f3),
 (true,0x1687868d0c3c942a86f6a2f6bc2b0b0014da5b25d28de6968dd58ec932777ea8),
 (true,0x2e1d6d99905ca613107ae06ad50b69ee23145b1a91e4afb8a2ca74b9207129a5),
 (true,0x4cc2cb0832313f941fe6fa205e66482b5c95e94b784f8cad768d71554e8dd58c),
 (false,0x953eb80710490a90c4e9015ccc7780ddcef83b0e528d98b2147d8cee36c7f650),
 (true,0xe77a43f2a2db426a4734fedd298ff83781fcc9a38db40f997784a88426213f9b),
 (false,0x883154e5f6c853f82b843514a92c45ff38ef34beaaa4c7daa8dc8eae6f30eb88),
 (true,0x603ce71d2f4875d6123745af68f305da3eac9f117aecb657b2452e1194fd1c8b),
 (false,0x3dfb0b8a175ddcf55618fdee537b8a67e3d57ce34b8e94e373fe7c714da7bb04),
 (true,0x328311006166da0e2d955527c15989dcadf4e3fd67e2fa1041c595d4d5bb5318),
 (true,0x7e087002e55cae077c9697c99e58a03e348c2cf038320cdadba6fdbdc2abda18),
 (true,0x874749fef062abebe4fcd8d6de89523c51b44716b020f206d464b45cebd0227d),
 (true,0x54f55f77ccd03ea178b1a9b03bc1897cea9b8351be047214c7608b24e0da4759),
 (false,0xf5941c1eb12654a007fb675db05b67aa690e9385ab4ea936ce0d8d9d07282f09),
 (true,0x5acfb45bd60bc0684156370c695bdfa3cab57c65f4c38a6a53081170e235536e),
 (true,0x947b6dd1a288447c982122974b7d9a8332d3e6c66bd628de21b21bf1e207b274),
 (false,0x83175995fb4db2bde9505510b2d6087e98574d82ecd74dd2c38e20eaaa4aebee),
 (true,0xca6be48477e056606160f68ebe6af2618203bd96699dfac805feb6fa3b2875f1),
 (false,0x9451d9c9c74c355b0c775b914fb857ad85fe732cda0baebf7528245a026485e9),
 (true,0xe02cf3e22f37777a9f0a291795186edf86f76a830e192ee15156aab6c19d43f6),
 (false,0xa8f01cacbd47a9fef58f723c262de87890f85d1ad84d95bf26bf0ae783d7681b),
 (true,0x8b8b8a063728619146fe97651e7e937006dd59bb5b71738f57902a022abcdf90),
 (false,0xb4aff3b7eea3d1f46cfb383fc5441831bee8c24ff486ef5658e1879d6eaa67b2),
 (true,0x3050f99b1337c62004e120e368b9c0f76b837cba50537ff5e210843b7f72c84),
 (true,0x359cb63dd575fe116d4334b14409ac9b98abc4fbae71c5208e980e73c5464763),
 (true,0x741d59dd266cf529f4c4d32cb6c774d98385e15d27764acc6c6e572e4e80178c),
 (false,0xc707bb40a046b6b80ad2370021bd7c1e4798b937a4fe3f46ba3b92352fcc5c80),
 (true,0x6d9b738fcf928b6507ab382568d26fe8fb1a5cd2267ad3c7cd8b35f7bdda1564),
 (false,0x9a23f7a3e0df8e90377b8ec3d19a9aff6a18510c305d31a42895851fcd7a8f79),
 (true,0x57144b4feb9401f989142e6227165ba7092e76c6efdc9427d946dc3ec193eb2c),
 (false,0x3564f27cda557f419e3751b19a06994d4820fe4f5c0b125641d601ff3c519f37),
 (true,0x5a30e7df1b086b43be6dc3ed231fc325d82608e31ca367029c00c348cbb10234),
 (false,0xeb26fafbc6f12849241b40374ee7edb8e72f1546f6aadfa139ed14ec2c68687d),
 (true,0xa062b7b604d46e0eec641b05bea0471db15e82688f5826c1c34637bbd3edec1a),
 (true,0x9fabde1ceaeb992e80017b12d617ae37f2035299330091887021ceb827ccbb36),
 (false,0x230d7a4a3dcda864775eb4ffe8f319d14834441848fc304ad231797811c1302b),
 (true,0x5470a5c84b32e321637d2e208201a340a01ffeca339bd0aa80979c4f1170ec87),
 (true,0x7e0a3376d947900a7a41aa6d2f81b1952d4c5c95a3d6fbf1603466442e7f0620),
 (true,0xe05d1f4553924fe6c8c2d7e3065b67bde5d0c944415fef1de4ee9e5bb461835),
 (true,0xd6be9e6daef03da7f6225309237433fd6749d3ba48e55744d1086a32681a48b5),
 (true,0x232359521f0e0a6d5ebdb8edfec99aa6083f85ee92d280a53cf82f10076328a7),
 (false,0x5a5329acaed2ae0b821c3ff92a8374a4f3815e42d8d135e1aa12f39b7c454904),
 (true,0x38ddab01e96df9b5601daeee9c80b49ed240c47e2ecc960852018922aba272f1),
 (true,0x95b7fab8a622fff06ad5e5702363a19dae3220b75d3ae3ba3a0b13ee14053131),
 (true,0xfe55999c46aa7703a1458f52588d6a83284348451bc4249b2c800fe6f32c0163),
 (false,0x73f0586710391df475564ffc3712d6a06aff5021e1db8cc1d728b08441cb8582),
 (true,0xaa3974036dfdaaf916da0c1878bdbaf4f0c5d807fdef7cbb0941a7906a25ae06),
 (false,0xdc4aca2ff9ba9a9dcf44510fc7383937e55bd24a043cf7781a2577cd646fda7d),
 (true,0x1ab42b29bc622068b7cbc863c4ce66b417666ef3b1d9e655c61875341cf429d2),
 (false,0x92345d7044ad0d848e1bccf5eff8fa9ea1d2094cce29b2b464be0835355259cc),
 (true,0x1ee92dd3bd4acd40e84faadc778c19de7411b80ab00611d2fdd6d370e9e5dc0a),
 (false,0x1d8260b9284c55883180ecda117d24d39deaa7b40009d882392954f6293147a7),
 (true,0xd8833940fe6bd86636ea00d04162f80381a184a21c5014203d4cf7987edfe17b),
 (true,0x34e0318ef4cceb053031caf723efabaa1bc24c69e63a9d8f8719e91cde261341),
 (true,0x3a2cd2afbd4549342122c9254195397712e1af3e5627b560e348ddaa5e7d72fc),
 (false,0xb1272f6929356887be06790304fa3b2c50392403a47d95d10d8dcaaa94afdbdf),
 (true,0x47a696954b4e9132c951338cc9a61bd3e9b4bc2e9b3bf2f53bf47df42cbbdef9),
 (false,0x2365657d0ecfba1cd9890d7c154e672ede0be9a894259fe354f79a7eb402e254),
 (true,0x6d50873f95866b8df06fdea9f82edca96c81e5b72d078eda81495bc687354c70),
 (false,0xcd3b264cf0eda2a96ddfb1565f695665d2ccd5f3f20eaeb19d924c9d34765683),
 (true,0x6ad3ef0cc2adb4848acee7f765112db3320d3015d9fdd461d525103004f36882),
 (true,0xb8117ba4cabcbf56c5077417a86c3c354d303a799c2df5fbf25209e098c918e0),
 (false,0x9799eebf6910f389f179c097b9caaa7e38e3783b16f050360872be57202ffae9),
 (true,0x272833c940196608342b4352e118a500103c7950ef5c1304fc78ceede9288265),
 (false,0x58923aa006dd6b85d52240048faa72c1ae6a17d68c1fc1ef4ae027e9df559653),
 (true,0x8fbeff7fe11ee2c66414064d23a0f74544e896ff2b0fbe02682a5b0fc230802b),
 (false,0xb248193a2c9da2e5391bee1e16ecabfea8857d2fe4bce2217a4cb27ccf157ac8),
 (true,0x1e24e23be43ebbe98edbe61394c3a6ed01a7f4444ac3d5e4cce9f95f1f1b30db),
 (true,0xaf7b1bedf0c2915b1da8d0b4b2c1a7744f9b9aea67bf3dcd991f35c737a3050b),
 (true,0xead75cf07542905a364f01948be976aef4a71f8ffd4aea0c6334a6b6a53b30de),
 (false,0x5ff1e7271371070120bbedc03ef024d151b8361bd1ed5baa895c0aadc0f14da8),
 (true,0x9d925913cfa37ffce734f79dbef8fd054ee65f7ebd4a81ada48ec7aa3b3a3d3c),
 (false,0xdcb744afc0229d962da3d0519f94f764d653aae85868d6753d47ed1f3016a368),
 (true,0x57e62cadf09a652b3996d26bf7e6bf4fd20ed169403615faef394d02d32cda5b),
 (false,0x74b070d234240a63bb8c84795e95174bee5f3d900ea9748c174fe75286fd9424),
 (true,0xf99a98c677df5fa909f310e9c1e4d2e4d7661c86650dd382f74d78255dbb4d17),
 (true,0x1f7bfca8004798e8724c6e51d327af0c8b9dcfced075624ea910059c69819217),
 (true,0xfbe3f876cad27ea18b7ed7d9a18e7277f5ece4c2b3a80b2926ec17398dbd740),
 (false,0x9d5851443baa883af29ab3bc9db02fb7160641ab858712546e09bf4df5f17191),
 (true,0x1744a80c7c558f443cbaeab6a1598aa5cf536f8e359d8d65e6a33e32950b33f4),
 (true,0xcb26e5491d724794d4428479d1e1ef5b43aac2ee8abf8bba5d91c748141b2caf),
 (false,0x74ccf97cdb9cabf0d5790efcd315a8dd5f7acc4a142c89ea83402f7f2cac8485),
 (true,0x97a3ec5a23b71974a2f8008a754e8ad427b671bcafeb52e4ae600b263a1ee532),
 (true,0xb069de89a4981947b55927be9b4aecceec0662f6fb4fe3ed1955d75938caf41e),
 (false,0xb77b0bfb4fec49493dce1cea2c41b2cd16dab25004498ccd8c855b6dd3621b43),
 (true,0xeec21863927dff14bd8494de14db27aa9d6807deec4a05b27be99b9897831f59),
 (false,0xd15e9a68e1f9967a12a2b03bda1090ba253719e8d418fe9516ea86624c53c473),
 (true,0xd179f413ae3bfd5ab16b4fa72c59c7cff3de907e09f0fe2e6784aa84fdd8df5b),
 (true,0xf3651f1948b6da881c2419f75d7cf4b68afc8df485801ac4b19c7755233c6f0c),
 (true,0xbe23251d063af957b0c233d8caaad3245a71d35cee8041a4da77eb003fc49840),
 (true,0xd6773521eb6e218ad74d5d85cc0a9a6f3f123dbe6a34ec9433b8a7639848538d),
 (true,0xc226bfbf1244da56d3dea59525961a1c5d7418bd2bf0657a343a360c1befd5f),
 (false,0x59b6d8f0542cd3ac58c7c329621174b2eca04b71ae8c59dc295d2b962b5f9e7d),
 (true,0xdf9b3838a957e0c756f0511e932cc745acbdd28dcf15d0976c74b8d038b03e11),
 (true,0x23fd6604b1c52e89a5cf5a42a27a700e63c1c8a192f4e1946e843ab4e2cd0b50),
 (false,0x2f314ddab8c8ea4af2ee2fc074969fedff108e6dd1fffdeadfb5e1c09f37b74c),
 (true,0xd3c999ac09579c6befb44f3bd7d9ec6b6121ebeafd0d10d59ce3db65b5c70243),
 (false,0x54af7e34b0a7455dc6c8758f530a4486046585ea6071aa018c0ff9eb018bc073),
 (true,0x5a9f1ba5969ef050801ccb05b8cac7546bca3397533e42c3a50b5fb7d02df229),
 (false,0x11fd3ab9ccffdee48e84914060e7694f19e0facba6e4be5b5ec32040bbc3b42c),
 (true,0x4627852d728f801fbffb9062295608b74f4166dd95ed8793ff8aa2e712906f1),
 (false,0xebd8f483739b6a88272097ba1b82731f62e5c5581ecffe3f6fee9081bad1c44a),
 (true,0x85eee6a5b3de2ee9d430809d6902483035ab509b75161ab439bdcb1b181dff4),
 (false,0xf7b928dbcb0493fd7a0085902d850ed979ac54d2b09b35e0f5222502d6b7616),
 (true,0xedcad937955fb1432048ddf8ccd280dc7afd872455774736a42000c86b4a103f),
 (false,0x2ae7a873e404b3a48eff79b84224336af9fbfe146b47981dcf5fa735ad528a1a),
 (true,0xe04398830685690df5e208459a98defd8832b5196e2be0b8df82c16c77f7f5),
 (true,0xfcd96ffebeb7a47ee4590684b7c9a2e0b8fa03beabd83654d7d76cdbbcd60335),
 (true,0xa740a7573695f572d3c174ed4560cbd69eee3a8e77be3734bca252c05a6933a0),
 (true,0x4c10a29d61779fcc20538fe766b7ba167322dbfe669dcbe6fed8df39242193b6),
 (false,0x193a2a5d0e71936eee0cffac8554786401b16576e6a780ed17b8ab9206a13ebd),
 (true,0x60c3c996a0a562357f8a2b1dfe6a1a98d55c412235f3d66ad32a6826b9e8d121),
 (false,0xe56b3e3cccc828bc2fc2f6e91e83bd490f1900966d58587501b66bae6dd79fe1),
 (true,0x9c82adc5593be14823416d07f9f833db891a9f58ca31315a0dca08778edd591c),
 (true,0xff5fa2b8eaa15963bcf8f4d08ad28483801b21e4ab054838b84b2c1b7eec2911),
 (true,0x32057cfec2c8b40d8810f0fd0f1bc108f4d4bf6fbc21b9a5e7e521a26d065898),
 (true,0xab2d3277a3919fb090c5b011b0174c465bd9e87f95553f4ad7734df531758636),
 (false,0xb3ccf90bbc83dfa0a6a51c683d8d9455ca0ef7a6b1e2e3215d7d4aa1d76acb8e),
 (true,0xf9f1bfe8232e1a129def837ac45fd6dd4ff071eeb8c7052589e827c474ca4960),
 (false,0xebd7de2c0d47220880332e2fdcec8d0c32ecd816a325e9656eca4dc8ba40d125),
 (true,0x4439830783f364ff8326337036fd5b26868085c15009f456a82a1b0880ff7d67),
 (true,0x2f41d190d91e77680712007969891e3ca1deeeaa9415496a1d4e302a4df1e551),
 (true,0xe60a0cb18c966612d38cc039609f7ff3a2de07efeaf428b0a465c13b23621739),
 (false,0xc75a30555e78aad072191476bba91d8369aa498d01b13b2b7b4707e205f20a94),
 (true,0xda1583e3ad79ae5ecff6ebda1b774dc7dc00d278dd25680f869cc30585dcf0f),
 (true,0xd3718f57d9db98eb139f5f4e3a41e28d035f899d9e91a8107efe15b79a27c629),
 (true,0xcebb240edc61826baaa5297c41e7a8137af81c8113dc9c20ee1933583e3f7494),
 (false,0x8b391b2d59c8e63ab3fa0a40b860337b5aaff347b3228e323104d498da3b6418),
 (true,0x3d46e9ef5aed4aa9fea6810de4d5e822316732bcbdfbff222b7ea641d0f4c236),
 (true,0x2d45701fda7e3d7f4ecb15fd4fefebe30788a1a6861a4f6ca1431cd8c329e135),
 (false,0x6d1ab84b6bfc3dd20fe5eb07933ff7ac3f81ac780b4e9c3ec8f773b97dda779f),
 (true,0xf5c92d577891d8d5e9308b7380703c776943d20df29457a43a089efed2324e08),
 (true,0xe88b7de3f5fa482be7b122800f456e1688c08618ee100504d19da17644a084fc),
 (false,0xfe3b635c4752201380648dd222ea1a37a8b56b31539ffdeffff0bab1e20a6457),
 (true,0x13e1aace41718a701cfc777d12d8d44229a07d9deb4b28c637ee82e18b6b8866),
 (true,0x56436ab347a1162845d4c6b9cbe939adea2c4f90c169d40a97e58c7fbaec7a9b),
 (false,0x9b77ec69617f51069699bec6f62797e61fda164d9ad2f53842780fb17e45fa62),
 (true,0x510d851c47baf8984835e68c845e2bb545d52977fc75a523d9580f6237793779),
 (true,0xb9fded35e510eaf5658921bfe5042746076d1426453aa249dcb6bd3495e18ec8),
 (true,0x755d14d98ff4cbf80f733a8570b5b20dd2d2e8c0fecc7ebe2d31bba5e4b33192),
 (true,0x83362c631c75685e3615425a3bf2d24ad3517a0496f1d94b79cc3fdabf3fe22a)]
def code : Q → Nat
 | ⟨none,_⟩ => 0
 | ⟨some (x,y),_⟩ => 1 + 2 * x.val + (if y.val ≤ (- y).val then 0 else 1)
/-! How a walk meets these: numbers below the modulus,as values of the field's. -/

theorem pp_pr : Pr pp:=by
 obtain ⟨g,hg⟩:=pp_root
 exact root_pr hg (Nat.lt_trans (by decide) pp_big)
theorem v_add (x y : Fin pp) : (x.val + y.val) % pp = (x + y).val:=(Fin.val_add x y).symm
theorem v_mul (x y : Fin pp) : x.val * y.val % pp = (x * y).val:=(Fin.val_mul x y).symm
theorem v_sub (x y : Fin pp) : (x.val + pp - y.val) % pp = (x - y).val:=by
 have h:=y.isLt
 rw [Fin.sub_def]
 show _ = (pp - y.val + x.val) % pp
 congr 1
 omega
theorem v_gcd {x : Fin pp} (h : x ≠ 0) : Nat.gcd x.val pp = 1:=by
 rcases pp_pr.2 _ (Nat.gcd_dvd_right x.val pp) with h1 | h1
 ·
  exact h1
 ·
  exfalso
  have h2:=Nat.gcd_dvd_left x.val pp
  rw [h1] at h2
  have h0 : x.val ≠ 0:=fun e => h (Fin.ext (by rw [e,Fin.val_zero]))
  have h3:=Nat.le_of_dvd (Nat.pos_of_ne_zero h0) h2
  have:=x.isLt
  omega
theorem v_inv {x : Fin pp} {t : Nat} (ht : t < pp) (h : x.val * t % pp = 1) : t = (E256.inv x).val:=by
 have e1 : x * F t = 1:=by
  apply Fin.ext
  rw [Fin.val_mul]
  show x.val * (t % pp) % pp = 1
  rw [Nat.mod_eq_of_lt ht,h]
 have hx : x ≠ 0:=by
  rintro rfl
  rw [Fin.val_zero,Nat.zero_mul,Nat.zero_mod] at h
  exact absurd h (by decide)
 have e2:=good.hinv x hx
 have e3 : (F t : Fin pp) = E256.inv x:=by
  have : (F t : Fin pp) = x * F t * E256.inv x:=by
   rw [zgc x,zfj,e2,zgy]
  rw [this,e1,zgb]
 rw [← e3]
 exact (Nat.mod_eq_of_lt ht).symm
theorem ring_on {n : Nat} [NeZero n] (b x y : Fin n) : y * y = x * x * x - 3 * x + b ↔ y * y = x * x * x + - 3 * x + b:=by
 constructor
 ·
  intro h; rw [h]; clear h; grobner
 ·
  intro h; rw [h]; clear h; grobner
theorem on_iff (x y : Fin pp) : E256.on (some (x,y)) ↔ y * y = x * x * x - 3 * x + F bb:=by
 show y * y = x * x * x + F (pp - 3) * x + F bb ↔ _
 rw [F_p3]
 exact (ring_on _ _ _).symm
theorem ring_lam {n : Nat} [NeZero n] (x i : Fin n) : (3 * (x * x) + - 3) * i = 3 * (x * x - 1) * i:=by grobner
theorem lam_same (x y : Fin pp) : E256.lam x y x y = 3 * (x * x - 1) * E256.inv (y + y):=by
 unfold Cur.lam
 rw [if_pos ⟨rfl,rfl⟩]
 show (3 * (x * x) + F (pp - 3)) * _ = _
 rw [F_p3]
 exact ring_lam _ _
theorem lam_else {x1 y1 x2 y2 : Fin pp} (h : ¬ (x1 = x2 ∧ y1 = y2)) : E256.lam x1 y1 x2 y2 = (y2 - y1) * E256.inv (x2 - x1):=if_neg h
theorem ring_neg {n : Nat} [NeZero n] (y1 y2 : Fin n) : y1 = 0 - y2 ↔ y1 + y2 = 0:=by
 constructor
 ·
  intro h; subst h; grobner
 ·
  intro h; grobner
theorem add_far {x1 y1 x2 y2 : Fin pp} (h : x1 = x2 ∧ y1 = 0 - y2) : E256.add (some (x1,y1)) (some (x2,y2)) = none:=zep E256 ⟨h.1,(ring_neg _ _).mp h.2⟩
theorem add_near {x1 y1 x2 y2 : Fin pp} (h : ¬ (x1 = x2 ∧ y1 = 0 - y2)) : E256.add (some (x1,y1)) (some (x2,y2)) = third x1 y1 x2 (E256.lam x1 y1 x2 y2) :=
 if_neg (fun e => h ⟨e.1,(ring_neg _ _).mpr e.2⟩)
theorem down_same {x y : Fin pp} (h : E256.on (some (x,y))) : y + y ≠ 0:=fun e => y_ne good h (dbl_zero good e)
theorem down_else {x1 y1 x2 y2 : Fin pp} (h1 : E256.on (some (x1,y1))) (h2 : E256.on (some (x2,y2))) (hn : ¬ (x1 = x2 ∧ y1 = 0 - y2)) (hs : ¬ (x1 = x2 ∧ y1 = y2)) : x2 - x1 ≠ 0:=by
 intro e
 have hx:=(eq_of_sub e).symm
 subst hx
 have e1 : y1 * y1 = y2 * y2:=by
  have h1 : y1 * y1 = _:=h1
  have h2 : y2 * y2 = _:=h2
  rw [h1,h2]
 have e2 : (y1 - y2) * (y1 + y2) = 0:=by clear h1 h2 hn hs e; grobner
 rcases good.hz _ _ e2 with h | h
 ·
  exact hs ⟨rfl,eq_of_sub h⟩
 ·
  exact hn ⟨rfl,(ring_neg _ _).mpr h⟩
theorem mul_top (k i : Nat) (q : Q) : grp.mul (k / 2 ^ i) q = (if k / 2 ^ i % 2 = 1 then grp.op (grp.op (grp.mul (k / 2 ^ (i + 1)) q) (grp.mul (k / 2 ^ (i + 1)) q)) q else grp.op (grp.mul (k / 2 ^ (i + 1)) q) (grp.mul (k / 2 ^ (i + 1)) q)):=by
 have e : k / 2 ^ (i + 1) = k / 2 ^ i / 2:=by rw [Nat.pow_succ,Nat.div_div_eq_div_mul]
 rw [e]
 generalize k / 2 ^ i = m
 rw [← grp.mul_add]
 by_cases h : m % 2 = 1
 ·
  rw [if_pos h,← grp.mul_succ]
  congr 1
  omega
 ·
  rw [if_neg h]
  congr 1
  omega
def pX : P pp → Nat
 | none => 0
 | some (x,_) => x.val
def pY : P pp → Nat
 | none => 0
 | some (_,y) => y.val
def pFar : P pp → Bool
 | none => true
 | some _ => false
theorem pX_lt (p : P pp) : pX p < pp:=by
 rcases p with _ | ⟨x,y⟩
 ·
  exact Nat.lt_trans (by decide) pp_big
 ·
  exact x.isLt
theorem pY_lt (p : P pp) : pY p < pp:=by
 rcases p with _ | ⟨x,y⟩
 ·
  exact Nat.lt_trans (by decide) pp_big
 ·
  exact y.isLt
def isOn (X Y : Nat) (far : Bool) : Prop:=if far = true then X = 0 ∧ Y = 0 else X < pp ∧ Y < pp ∧ E256.on (some (F X,F Y))
theorem isOn_iff (X Y : Nat) (far : Bool) : isOn X Y far ↔ ∃ q : Q,X = pX q.1 ∧ Y = pY q.1 ∧ far = pFar q.1:=by
 unfold isOn
 by_cases h : far = true
 ·
  rw [if_pos h]
  subst h
  constructor
  ·
   rintro ⟨rfl,rfl⟩
   exact ⟨grp.o,rfl,rfl,rfl⟩
  ·
   rintro ⟨⟨_ | ⟨x,y⟩,hq⟩,h1,h2,h3⟩
   ·
    exact ⟨h1,h2⟩
   ·
    exact absurd h3 (by simp [pFar])
 ·
  rw [if_neg h]
  have h : far = false:=by simpa using h
  subst h
  constructor
  ·
   rintro ⟨hx,hy,ho⟩
   exact ⟨⟨_,ho⟩,(Nat.mod_eq_of_lt hx).symm,(Nat.mod_eq_of_lt hy).symm,rfl⟩
  ·
   rintro ⟨⟨_ | ⟨x,y⟩,hq⟩,h1,h2,h3⟩
   ·
    exact absurd h3 (by simp [pFar])
   ·
    have h1 : X = x.val:=h1
    have h2 : Y = y.val:=h2
    subst h1
    subst h2
    rw [F_val,F_val]
    exact ⟨x.isLt,y.isLt,hq⟩
end Go.Proofs.YtmfjigcdhijkjaaGreatDoor.Pt
namespace Go.Proofs.YtmfjigcdhijkjaaGreatDoor
open Go.RowKit
open Go.Value renaming int → vI
open Go.IntKind renaming u64 → vU
open Go.Act renaming put → aP
open List renaming setIfInBounds_toArray → lA, set_cons_zero → lZ, set_cons_succ → lS
theorem zbq : Pt.pp < top:=by decide +kernel
theorem zgr : 0 < Pt.pp:=by decide +kernel
theorem pp_lits : wd Pt.pp 0 = 18446744073709551615 ∧ wd Pt.pp 1 = 4294967295 ∧ wd Pt.pp 2 = 0 ∧ wd Pt.pp 3 = 18446744069414584321:=by decide +kernel
theorem bb_lits : wd Pt.bb 0 = 4309448131093880907 ∧ wd Pt.bb 1 = 7285987128567378166 ∧ wd Pt.bb 2 = 12964664127075681980 ∧ wd Pt.bb 3 = 6540974713487397863:=by decide +kernel
theorem gx_lits : wd Pt.gx 0 = 17627433388654248598 ∧ wd Pt.gx 1 = 8575836109218198432 ∧ wd Pt.gx 2 = 17923454489921339634 ∧ wd Pt.gx 3 = 7716867327612699207:=by decide +kernel
theorem gy_lits : wd Pt.gy 0 = 14678990851816772085 ∧ wd Pt.gy 1 = 3156516839386865358 ∧ wd Pt.gy 2 = 10297457778147434006 ∧ wd Pt.gy 3 = 5756518291402817435:=by decide +kernel
theorem zbg : (Tryz.prog.info? 29).map (·.size) = some 9:=by kernel_rfl
theorem zih (w : World) : Calls Tryz.prog 84 #[] w fun e w' => e = .returned (.agg #[vI vU (wd (Pt.pp) 0),vI vU (wd (Pt.pp) 1),vI vU (wd (Pt.pp) 2),vI vU (wd (Pt.pp) 3)]) ∧ Below w.heap.size w w':=by
 obtain ⟨l0,l1,l2,l3⟩:=pp_lits
 rw [l0,l1,l2,l3]
 clear l0 l1 l2 l3
 go_enter Tryz.func84,Tryz.ntmps84
 go_wp2
 exact bodyPost_ret (results_cell_row rfl _ _ w.heap.size 24 #[vI vU 18446744073709551615,vI vU 4294967295,vI vU 0,vI vU 18446744069414584321] (0,0) _ rfl (heap_alloc_last w _) Tryz.underlying24 rfl (by kernel_rfl)) rfl ⟨rfl,(Below.refl _ _).alloc (Nat.le_refl _) _⟩
/-! ### points: values,rows,'==' -/
def pc (X Y : Nat) (f : Bool) (j : Nat) : Value:=if j < 4 then .int .u64 (wd X j) else if j < 8 then .int .u64 (wd Y (j - 4)) else .bool f
theorem arr9 (X Y : Nat) (f : Bool) : ∀ i,i < 9 → (#[vI vU (wd X 0),vI vU (wd X 1),vI vU (wd X 2),vI vU (wd X 3),vI vU (wd Y 0),vI vU (wd Y 1),vI vU (wd Y 2),vI vU (wd Y 3),.bool (f)] : Array Value)[i]? = some (pc X Y f i)
 | 0,_ => rfl | 1,_ => rfl | 2,_ => rfl | 3,_ => rfl | 4,_ => rfl | 5,_ => rfl | 6,_ => rfl | 7,_ => rfl | 8,_ => rfl
 | n + 9,h => by omega
theorem one9 (X Y : Nat) (f : Bool) : (#[vI vU (wd X 0),vI vU (wd X 1),vI vU (wd X 2),vI vU (wd X 3),vI vU (wd Y 0),vI vU (wd Y 1),vI vU (wd Y 2),vI vU (wd Y 3),.bool (f)] : Array Value).all (·.oneCell') = true:=by simp [Value.oneCell']
theorem blk9 {w : World} {b t X Y : Nat} {f : Bool} (h : w.rowIs b t 9 (pc X Y f)) : w.heap[b]? = some (.cells #[vI vU (wd X 0),vI vU (wd X 1),vI vU (wd X 2),vI vU (wd X 3),vI vU (wd Y 0),vI vU (wd Y 1),vI vU (wd Y 2),vI vU (wd Y 3),.bool (f)] t (0,0)):=by
 obtain ⟨c,hc,hn,hi⟩:=h
 have e : c = (#[vI vU (wd X 0),vI vU (wd X 1),vI vU (wd X 2),vI vU (wd X 3),vI vU (wd Y 0),vI vU (wd Y 1),vI vU (wd Y 2),vI vU (wd Y 3),.bool (f)] : Array Value).toList.toArray:=arr_eq (l:=(#[vI vU (wd X 0),vI vU (wd X 1),vI vU (wd X 2),vI vU (wd X 3),vI vU (wd Y 0),vI vU (wd Y 1),vI vU (wd Y 2),vI vU (wd Y 3),.bool (f)] : Array Value).toList) (by simpa using hn) fun i h9 => by
  have h9' : i < 9:=by simpa using h9
  rw [hi i h9']
  have:=arr9 X Y f i h9'
  simpa using this.symm
 rw [hc,e]
theorem zew {w : World} {b : Nat} (X Y : Nat) (f : Bool) {t : Nat} (hb : b = w.heap.size) : (w.alloc (.cells #[vI vU (wd X 0),vI vU (wd X 1),vI vU (wd X 2),vI vU (wd X 3),vI vU (wd Y 0),vI vU (wd Y 1),vI vU (wd Y 2),vI vU (wd Y 3),.bool (f)] t)).rowIs b t 9 (pc X Y f):=zag (n:=9) hb rfl (arr9 X Y f)
theorem pt_x {w : World} {b t X Y : Nat} {f : Bool} (h : w.rowIs b t 9 (pc X Y f)) : w.cell? ⟨b,0,none⟩ = some (vI vU (wd X 0)) ∧ w.cell? ⟨b,1,none⟩ = some (vI vU (wd X 1)) ∧ w.cell? ⟨b,2,none⟩ = some (vI vU (wd X 2)) ∧ w.cell? ⟨b,3,none⟩ = some (vI vU (wd X 3)) :=
 ⟨h.cell (by decide),h.cell (by decide),h.cell (by decide),h.cell (by decide)⟩
theorem pt_y {w : World} {b t X Y : Nat} {f : Bool} (h : w.rowIs b t 9 (pc X Y f)) : w.cell? ⟨b,4,none⟩ = some (vI vU (wd Y 0)) ∧ w.cell? ⟨b,5,none⟩ = some (vI vU (wd Y 1)) ∧ w.cell? ⟨b,6,none⟩ = some (vI vU (wd Y 2)) ∧ w.cell? ⟨b,7,none⟩ = some (vI vU (wd Y 3)) :=
 ⟨h.cell (by decide),h.cell (by decide),h.cell (by decide),h.cell (by decide)⟩
theorem pt_f {w : World} {b t X Y : Nat} {f : Bool} (h : w.rowIs b t 9 (pc X Y f)) : w.cell? ⟨b,8,none⟩ = some (.bool f):=h.cell (by decide)
theorem lits_word (X i : Nat) (D : Nat) : Tryz.prog.keyLits (D + 1) 22 [.int .u64 (wd X i)] = some [.int .u64 (wd X i)]:=by
 have h0:=wd_lo X i
 have h1:=wd_le X i
 have hw : (Lit.int .u64 (wd X i)).wf = true:=by
  simp only [Lit.wf,Bool.and_eq_true,decide_eq_true_eq]
  have e1 : IntKind.u64.min = 0:=rfl
  have e2 : IntKind.u64.max = 18446744073709551615:=rfl
  omega
 simp [Program.keyLits,Tryz.underlying22,hw]
theorem cells_word : Tryz.prog.cellsOf 22 = 1:=by kernel_rfl
theorem cells_num : Tryz.prog.cellsOf 24 = 4:=by kernel_rfl
theorem cells_pt : Tryz.prog.cellsOf 29 = 9:=by kernel_rfl
theorem cells_bool : Tryz.prog.cellsOf 4 = 1:=by kernel_rfl
theorem lits_num (X : Nat) (D : Nat) : Tryz.prog.keyLits (D + 2) 24 [.int .u64 (wd X 0),.int .u64 (wd X 1),.int .u64 (wd X 2),.int .u64 (wd X 3)] = some [.int .u64 (wd X 0),.int .u64 (wd X 1),.int .u64 (wd X 2),.int .u64 (wd X 3)]:=by
 unfold Program.keyLits
 simp [Tryz.underlying24,cells_num,cells_word,List.range_succ,lits_word]
theorem lits_bool (f : Bool) (D : Nat) : Tryz.prog.keyLits (D + 2) 4 [.bool f] = some [.bool f]:=by
 unfold Program.keyLits
 simp [Tryz.underlying4]
theorem lits_pt (X Y : Nat) (f : Bool) (D : Nat) : Tryz.prog.keyLits (D + 3) 29 (#[vI vU (wd X 0),vI vU (wd X 1),vI vU (wd X 2),vI vU (wd X 3),vI vU (wd Y 0),vI vU (wd Y 1),vI vU (wd Y 2),vI vU (wd Y 3),.bool (f)] : Array Value).toList = some [.int .u64 (wd X 0),.int .u64 (wd X 1),.int .u64 (wd X 2),.int .u64 (wd X 3),.int .u64 (wd Y 0),.int .u64 (wd Y 1),.int .u64 (wd Y 2),.int .u64 (wd Y 3),.bool f]:=by
 unfold Program.keyLits
 simp [Tryz.underlying29,cells_pt,cells_num,cells_bool,lits_num,lits_bool]
theorem wd_inj {X Y : Nat} (hX : X < top) (hY : Y < top) (h0 : wd X 0 = wd Y 0) (h1 : wd X 1 = wd Y 1) (h2 : wd X 2 = wd Y 2) (h3 : wd X 3 = wd Y 3) : X = Y:=by
 have h:=(all_wd 4 X Y).symm
 have ha : ((List.range 4).all fun i => wd X i == wd Y i) = true:=by
  simp [List.range_succ,h0,h1,h2,h3]
 rw [ha] at h
 have h5:=of_decide_eq_true h
 rw [Nat.mod_eq_of_lt (show X < w64 ^ 4 from hX),Nat.mod_eq_of_lt (show Y < w64 ^ 4 from hY)] at h5
 exact h5
theorem eql_pt {X Y X' Y' : Nat} (hX : X < top) (hY : Y < top) (hX' : X' < top) (hY' : Y' < top) (f f' : Bool) (w : World) : (binOp .eql 29 (.agg #[vI vU (wd X 0),vI vU (wd X 1),vI vU (wd X 2),vI vU (wd X 3),vI vU (wd Y 0),vI vU (wd Y 1),vI vU (wd Y 2),vI vU (wd Y 3),.bool (f)]) (.agg #[vI vU (wd (X') 0),vI vU (wd (X') 1),vI vU (wd (X') 2),vI vU (wd (X') 3),vI vU (wd (Y') 0),vI vU (wd (Y') 1),vI vU (wd (Y') 2),vI vU (wd (Y') 3),.bool (f')])).run Tryz.prog w = .ok (.bool (decide (X = X' ∧ Y = Y' ∧ f = f'))) w:=by
 rw [run_eql_struct]
 obtain ⟨r,hr,hiff⟩:=run_equalIn_deep (P:=Tryz.prog) 9990 10 29 (by kernel_rfl) w 10000 10000 (.agg #[vI vU (wd X 0),vI vU (wd X 1),vI vU (wd X 2),vI vU (wd X 3),vI vU (wd Y 0),vI vU (wd Y 1),vI vU (wd Y 2),vI vU (wd Y 3),.bool (f)]) (.agg #[vI vU (wd (X') 0),vI vU (wd (X') 1),vI vU (wd (X') 2),vI vU (wd (X') 3),vI vU (wd (Y') 0),vI vU (wd (Y') 1),vI vU (wd (Y') 2),vI vU (wd (Y') 3),.bool (f')]) _ _ (by simp [Value.formed,Tryz.underlying29,cells_pt]) (by simp [Value.formed,Tryz.underlying29,cells_pt]) (lits_pt X Y f 9997) (lits_pt X' Y' f' 9997)
 rw [hr,Result.andThen_ok]
 congr 2
 have hd : r = true ↔ (X = X' ∧ Y = Y' ∧ f = f'):=by
  rw [hiff]
  simp only [List.cons.injEq,Lit.int.injEq,Lit.bool.injEq,true_and,and_true]
  constructor
  ·
   rintro ⟨a0,a1,a2,a3,b0,b1,b2,b3,c⟩
   exact ⟨wd_inj hX hX' a0 a1 a2 a3,wd_inj hY hY' b0 b1 b2 b3,c⟩
  ·
   rintro ⟨rfl,rfl,rfl⟩
   exact ⟨rfl,rfl,rfl,rfl,rfl,rfl,rfl,rfl,rfl⟩
 cases r with
 | true => exact (decide_eq_true (hd.1 rfl)).symm
 | false => exact (decide_eq_false fun h => by have:=hd.2 h; cases this).symm
end Go.Proofs.YtmfjigcdhijkjaaGreatDoor
namespace Go.Proofs.YtmfjigcdhijkjaaGreatDoor
open Go.RowKit
open Go.Value renaming int → vI
open Go.IntKind renaming u64 → vU
open Go.Act renaming put → aP
open List renaming setIfInBounds_toArray → lA, set_cons_zero → lZ, set_cons_succ → lS
theorem eqT {X Y : Nat} {f : Bool} (hX : X < top) (hY : Y < top) (W : World) : (binOp .eql 29 (qv X Y f) (qv X Y f)).run Tryz.prog W = .ok (.bool true) W:=by
 have e:=eql_pt hX hY hX hY f f W
 rw [decide_eq_true ⟨rfl,rfl,rfl⟩] at e
 exact e
theorem gT (X Y X' Y' : Nat) (f f' : Bool) (op : BinOp) (x y : Operand) (W : World) : (eqGuard op 29 x y (qv X Y f) (qv X' Y' f')).run Tryz.prog W = .ok () W:=by
 unfold qv qc
 cases op <;> simp [eqGuard,go_sem]
theorem mkErr1 (W : World) : (Instr.makeInterface 39 (.int .i64 1)).run Tryz.prog W = .ok (.iface 39 (.int .i64 1)) W:=by simp [Instr.makeInterface,go_sem]
theorem mkErr4 (W : World) : (Instr.makeInterface 39 (.int .i64 4)).run Tryz.prog W = .ok (.iface 39 (.int .i64 4)) W:=by simp [Instr.makeInterface,go_sem]
theorem made_eqn {o : Oper} {a : Act} {w : World} {x y : Operand} {X Y : Nat} (ho : o.op = .binOp .eql 24 x y 24) (hx : a.eval x = nv X) (hy : a.eval y = nv Y) (lX : X < top) (lY : Y < top) : Made Tryz.prog o (.bool (decide (X = Y))) a w:=zcs fun W _ => by
 have k:=zit lX lY W
 unfold execOp
 simp only [ho]
 generalize a.eval = ρ at *
 rw [hx,hy]
 unfold nv nc at *
 have hg : (eqGuard .eql 24 x y (.agg #[vI vU (wd X 0),vI vU (wd X 1),vI vU (wd X 2),vI vU (wd X 3)]) (.agg #[vI vU (wd Y 0),vI vU (wd Y 1),vI vU (wd Y 2),vI vU (wd Y 3)])).run Tryz.prog W = .ok () W:=by simp [eqGuard,go_sem]
 simp only [Sem.run_bind,hg,Result.andThen_ok,k,Sem.run_pure]
end Go.Proofs.YtmfjigcdhijkjaaGreatDoor
namespace Go.Proofs.YtmfjigcdhijkjaaGreatDoor
open Go.RowKit
open Go.Value renaming int → vI
open Go.IntKind renaming u64 → vU
open Go.Act renaming put → aP
open List renaming setIfInBounds_toArray → lA, set_cons_zero → lZ, set_cons_succ → lS
section
variable {P : Program} {Q : Exit → Act → World → Prop} {l : List Oper} {m : Nat} {a : Act} {w : World} {ty t : TypeId} {zs cells : Array Value} {d de : Tmp} {y : Operand}
theorem zcw {o : Oper} {x : Operand} {i : Nat} {vs : Array Value} {v : Value} (ho : o.op = .extract x i) (hx : a.eval x = .tuple vs) (hv : vs[i]? = some v) (W : World) : (execOp a.eval o).run P W = .ok (.value v) W:=by
 unfold execOp
 simp only [ho]
 generalize a.eval = ρ at *
 rw [hx]
 simp [Instr.extract,go_sem,hv]
theorem zfc {i : Nat} {o : Oper} {ops : Array Oper} {v : Value} {K : Act → World → Prop} {a : Act} {w : World} (ho : ops[i]? = some o) (hg : o.guard = none) (he : (execOp a.eval o).run P w = .ok (.value v) w) (h : K (a.put o.dst v) w) : wpOp P ops Q i K a w:=by
 refine zbi ho hg ?_
 unfold Oper.wp
 rw [he,Oper.upon_value]
 exact h
theorem zfy {v vx : Value} {z : Operand} {dx : Tmp} (ox oa os oe : Oper) (hlen : l.length = m + 4) (hox : l.toArray[m]? = some ox) (hoa : l.toArray[m + 1]? = some oa) (hos : l.toArray[m + 2]? = some os) (hoe : l.toArray[m + 3]? = some oe) (hoa2 : oa.op = .alloc ty) (ho : os.op = .store ty (.tmp d) y) (hoe2 : oe.op = .assign z)
  (hdx : ox.dst = some dx) (hda : oa.dst = some d) (hd : os.dst = none) (hde : oe.dst = some de) (hgx : ox.guard = none) (hga : oa.guard = none) (hg : os.guard = none) (hge : oe.guard = none) (hne : dx ≠ d)
  (hr : Region.ready .any l.toArray (marked m 0 (Array.replicate l.length false)) = [m,m + 1]) (hr1 : Region.ready .any l.toArray (marked (m + 1) 0 (Array.replicate l.length false)) = [m + 1]) (hr2 : Region.ready .any l.toArray (marked (m + 2) 0 (Array.replicate l.length false)) = [m + 2]) (hr3 : Region.ready .any l.toArray (marked (m + 3) 0 (Array.replicate l.length false)) = [m + 3]) (hr4 : Region.ready .any l.toArray (marked (m + 4) 0 (Array.replicate l.length false)) = [])
  (hrb : Region.ready .any l.toArray ((marked m 0 (Array.replicate l.length false)).setIfInBounds (m + 1) true) = [m,m + 2])
  (hrc : Region.ready .any l.toArray (((marked m 0 (Array.replicate l.length false)).setIfInBounds (m + 1) true).setIfInBounds (m + 2) true) = [m])
  (hmk : (marked m 0 (Array.replicate l.length false)).setIfInBounds m true = marked (m + 1) 0 (Array.replicate l.length false))
  (hmk1 : (marked (m + 1) 0 (Array.replicate l.length false)).setIfInBounds (m + 1) true = marked (m + 2) 0 (Array.replicate l.length false))
  (hmkb : ((marked m 0 (Array.replicate l.length false)).setIfInBounds (m + 1) true).setIfInBounds m true = marked (m + 2) 0 (Array.replicate l.length false))
  (hmk2 : (marked (m + 2) 0 (Array.replicate l.length false)).setIfInBounds (m + 2) true = marked (m + 3) 0 (Array.replicate l.length false))
  (hmkc : (((marked m 0 (Array.replicate l.length false)).setIfInBounds (m + 1) true).setIfInBounds (m + 2) true).setIfInBounds m true = marked (m + 3) 0 (Array.replicate l.length false))
  (hmk3 : (marked (m + 3) 0 (Array.replicate l.length false)).setIfInBounds (m + 3) true = marked (m + 4) 0 (Array.replicate l.length false))
  (hz : ∀ W,(Instr.alloc ty true (.tuple #[])).run P W = .ok (ptrTo W.heap.size) (W.alloc (.cells zs t)))
  (hxv : ∀ W,(execOp a.eval ox).run P W = .ok (.value vx) W) (hxv2 : ∀ g W,(execOp (a.put (some d) (ptrTo g)).eval ox).run P W = .ok (.value vx) W)
  (hx : ∀ g,(a.put (some d) (ptrTo g)).eval (.tmp d) = ptrTo g) (hx2 : ∀ g,((a.put (some dx) vx).put (some d) (ptrTo g)).eval (.tmp d) = ptrTo g)
  (hy : ∀ g,(a.put (some d) (ptrTo g)).eval y = .agg cells) (hy2 : ∀ g,((a.put (some dx) vx).put (some d) (ptrTo g)).eval y = .agg cells) (hze : ∀ g,((a.put (some dx) vx).put (some d) (ptrTo g)).eval z = v)
  (hi : (P.info? ty).map (·.size) = some cells.size) (hold : zs.size = cells.size) (h1 : cells.all (·.oneCell') = true)
  (h : ∀ g W,w.heap.size ≤ g → W.heap[g]? = some (.cells cells t (0,0)) → Ext w W → Q .normal (((a.put (some dx) vx).put (some d) (ptrTo g)).put (some de) v) W) : Rest P l Q m (m + 2) a w:=by
 have comm : ∀ g,(a.put (some d) (ptrTo g)).put (some dx) vx = (a.put (some dx) vx).put (some d) (ptrTo g):=fun g => (Act.put_comm a vx (ptrTo g) (by simpa using hne.symm)).symm
 -- the assign,at last
 have fin : ∀ (f : Nat) (g : Nat) (W : World),w.heap.size ≤ g → W.heap[g]? = some (.cells cells t (0,0)) → Ext w W → wpG P .any l.toArray Q (m + 2) (f + 1) (marked (m + 3) 0 (Array.replicate l.length false)) ((a.put (some dx) vx).put (some d) (ptrTo g)) W:=fun f g W hg' hb hE => by
  refine ⟨fun h0 => (by rw [hr3] at h0; cases h0),fun j hj W3 hW3 => ?_⟩
  rw [hr3] at hj
  obtain rfl : j = m + 3:=by simpa using hj
  refine zfc (v:=v) hoe hge (by unfold execOp; simp only [hoe2,hze,Sem.run_pure]) ⟨fun h0 => by omega,?_⟩
  rw [hmk3,hde]
  cases f with
  | zero => exact ⟨hr4,fun W4 hW4 => h g W4 hg' ((hW3.trans hW4).block hb) (hE.trans (hW3.trans hW4))⟩
  | succ f => exact ⟨fun _ W4 hW4 => h g W4 hg' ((hW3.trans hW4).block hb) (hE.trans (hW3.trans hW4)),fun j hj => by rw [hr4] at hj; cases hj⟩
 unfold Rest
 rw [show l.length - m = 0 + 1 + 1 + 1 + 1 by omega]
 refine ⟨fun h0 => (by rw [hr] at h0; cases h0),fun i hi' W hW => ?_⟩
 rw [hr] at hi'
 obtain rfl | rfl : i = m ∨ i = m + 1:=by simpa using hi'
 ·
  -- the result first
  refine zfc hox hgx (hxv W) ⟨fun _ => Ext.refl _,?_⟩
  rw [hmk,hdx]
  refine ⟨fun h0 => (by rw [hr1] at h0; cases h0),fun j hj W1 hW1 => ?_⟩
  rw [hr1] at hj
  obtain rfl : j = i + 1:=by simpa using hj
  refine zbi hoa hga (zbz hoa2 hz ⟨fun _ => Ext.alloc _ _,?_⟩)
  rw [hmk1,hda]
  refine ⟨fun h0 => (by rw [hr2] at h0; cases h0),fun j hj W2 hW2 => ?_⟩
  rw [hr2] at hj
  obtain rfl : j = i + 2:=by simpa using hj
  refine zbi hos hg (wp_store_row ty _ y ho W1.heap.size cells (hx2 _) (hy2 _) t zs (hW2.block (zbv _ _)) hi hold h1 ⟨fun h0 => absurd h0 (Nat.lt_irrefl _),?_⟩)
  rw [hmk2,hd]
  exact fin _ _ _ (Nat.le_trans (Below.size hW) (Below.size hW1)) (setRow_heap W2 _ zs cells t (0,0) (hW2.block (zbv _ _))) (zcf ((hW.trans hW1).trans ((Ext.alloc _ _).trans hW2)) (Nat.le_trans (Below.size hW) (Below.size hW1)) cells)
 ·
  -- the variable first
  refine zbi hoa hga (zbz hoa2 hz ⟨fun _ => Ext.alloc _ _,?_⟩)
  rw [hda]
  refine ⟨fun h0 => (by rw [hrb] at h0; cases h0),fun j hj W1 hW1 => ?_⟩
  rw [hrb] at hj
  obtain rfl | rfl : j = m ∨ j = m + 2:=by simpa using hj
  ·
   refine zfc hox hgx (hxv2 _ W1) ⟨fun _ => Ext.refl _,?_⟩
   rw [hmkb,hdx,comm]
   refine ⟨fun h0 => (by rw [hr2] at h0; cases h0),fun k hk W2 hW2 => ?_⟩
   rw [hr2] at hk
   obtain rfl : k = j + 2:=by simpa using hk
   refine zbi hos hg (wp_store_row ty _ y ho W.heap.size cells (hx2 _) (hy2 _) t zs ((hW1.trans hW2).block (zbv _ _)) hi hold h1 ⟨fun h0 => absurd h0 (Nat.lt_irrefl _),?_⟩)
   rw [hmk2,hd]
   exact fin _ _ _ (Below.size hW) (setRow_heap W2 _ zs cells t (0,0) ((hW1.trans hW2).block (zbv _ _))) (zcf (hW.trans ((Ext.alloc _ _).trans (hW1.trans hW2))) (Below.size hW) cells)
  ·
   refine zbi hos hg (wp_store_row ty _ y ho W.heap.size cells (hx _) (hy _) t zs (hW1.block (zbv _ _)) hi hold h1 ⟨fun h0 => absurd h0 (Nat.lt_irrefl _),?_⟩)
   rw [hd]
   have hb2:=setRow_heap W1 W.heap.size zs cells t (0,0) (hW1.block (zbv _ _))
   have hE2 : Ext w (W1.setRow W.heap.size cells):=zcf (hW.trans ((Ext.alloc _ _).trans hW1)) (Below.size hW) cells
   refine ⟨fun h0 => (by rw [hrc] at h0; cases h0),fun k hk W2 hW2 => ?_⟩
   rw [hrc] at hk
   obtain rfl : k = m:=by simpa using hk
   refine zfc hox hgx (hxv2 _ W2) ⟨fun _ => Ext.refl _,?_⟩
   rw [hmkc,hdx]
   show wpG P .any l.toArray Q (k + 2) (0 + 1) _ ((a.put (some d) (ptrTo W.heap.size)).put (some dx) vx) W2
   rw [comm]
   exact fin _ _ _ (Below.size hW) (hW2.block hb2) (hE2.trans hW2)
theorem zhu {o : Oper} {ty e : TypeId} {x k : Operand} {g n cap i sz : Nat} (ho : o.op = .indexAddr ty x k) (hx : a.eval x = .slice (some ⟨g,0,none⟩) n cap) (hk : a.eval k = .int .i64 (i : Int)) (hi : i < n) (hu : P.underlying ty = some (.slice e)) (hs : (P.info? e).map (·.size) = some sz) : Made P o (.pointer (some ⟨g,i * sz,none⟩)) a w:=zcs fun W _ => by
 obtain ⟨inf,h1,h2⟩ : ∃ inf,P.info? e = some inf ∧ inf.size = sz:=by
  cases h : P.info? e with
  | none => simp [h] at hs
  | some inf => exact ⟨inf,rfl,by simpa [h] using hs⟩
 unfold execOp
 simp only [ho,hx,hk]
 simp [Instr.indexAt,asIntOf,run_underlying hu,sizeOf,typeInfo,h1,h2,hi,Result.andThen_ok,Addr.add_mid]
end
end Go.Proofs.YtmfjigcdhijkjaaGreatDoor
namespace Go.Proofs.YtmfjigcdhijkjaaGreatDoor
def rot (x n : Nat) : Nat:=x / 2 ^ n + 2 ^ (32 - n) * (x % 2 ^ n)
theorem rot_zero {x : Nat} : rot x 0 = x:=by unfold rot; rw [Nat.pow_zero,Nat.div_one,Nat.mod_one,Nat.mul_zero,Nat.add_zero]
theorem rot_step {x n : Nat} (hn : n < 32) : rot x n / 2 + 2147483648 * (rot x n % 2) = rot x (n + 1):=by
 obtain ⟨m,hm⟩ : ∃ m,32 - n = m + 1:=⟨31 - n,by omega⟩
 have hm2 : 32 - (n + 1) = m:=by omega
 have h31 : 2 ^ m * 2 ^ n = 2147483648:=by rw [← Nat.pow_add,show m + n = 31 by omega]
 unfold rot
 rw [hm,hm2,Nat.pow_succ 2 m,Nat.pow_succ 2 n,← Nat.div_div_eq_div_mul,Nat.mod_mul,Nat.mul_add,← Nat.mul_assoc (2 ^ m),h31,Nat.mul_comm (2 ^ m) 2,Nat.mul_assoc]
 generalize x / 2 ^ n = q
 generalize 2 ^ m * (x % 2 ^ n) = p
 omega
theorem zby {x n : Nat} (hn : n ≤ 32) (hx : x < 2 ^ 32) : rot x n < 2 ^ 32:=by
 have hp : 0 < 2 ^ n:=Nat.pow_pos (by omega)
 have e : 2 ^ 32 = 2 ^ (32 - n) * 2 ^ n:=by rw [← Nat.pow_add]; congr 1; omega
 have hq : x / 2 ^ n < 2 ^ (32 - n):=by rw [Nat.div_lt_iff_lt_mul hp,← e]; exact hx
 have hr:=Nat.mod_lt x hp
 unfold rot
 rw [e]
 have : 2 ^ (32 - n) * (x % 2 ^ n + 1) ≤ 2 ^ (32 - n) * 2 ^ n:=Nat.mul_le_mul_left _ hr
 rw [Nat.mul_add] at this
 omega
end Go.Proofs.YtmfjigcdhijkjaaGreatDoor
namespace Go.Proofs.YtmfjigcdhijkjaaGreatDoor
def kList : List Nat:=[1116352408,1899447441,3049323471,3921009573,961987163,1508970993,2453635748,2870763221,3624381080,310598401,607225278,1426881987,1925078388,2162078206,2614888103,3248222580,3835390401,4022224774,264347078,604807628,770255983,1249150122,1555081692,1996064986,2554220882,2821834349,2952996808,3210313671,3336571891,3584528711,113926993,338241895,666307205,773529912,1294757372,1396182291,1695183700,1986661051,2177026350,2456956037,2730485921,2820302411,3259730800,3345764771,3516065817,3600352804,4094571909,275423344,430227734,506948616,659060556,883997877,958139571,1322822218,1537002063,1747873779,1955562222,2024104815,2227730452,2361852424,2428436474,2756734187,3204031479,3329325298]
def kc (t : Nat) : Nat:=kList.getD t 0
def ad (x y : Nat) : Nat:=(x + y) % 4294967296
def sg0 (x : Nat) : Nat:=rot x 7 ^^^ rot x 18 ^^^ (x / 2 ^ 3)
def sg1 (x : Nat) : Nat:=rot x 17 ^^^ rot x 19 ^^^ (x / 2 ^ 10)
def bs0 (x : Nat) : Nat:=rot x 2 ^^^ rot x 13 ^^^ rot x 22
def bs1 (x : Nat) : Nat:=rot x 6 ^^^ rot x 11 ^^^ rot x 25
def chN (x y z : Nat) : Nat:=(x &&& y) ^^^ ((4294967295 - x) &&& z)
def majN (x y z : Nat) : Nat:=(x &&& y) ^^^ (x &&& z) ^^^ (y &&& z)
theorem getD_lo (l r : List Nat) {t : Nat} (h : t < l.length) : (l ++ r).getD t 0 = l.getD t 0:=by simp [List.getD,List.getElem?_append_left h]
theorem getD_at (l : List Nat) (x : Nat) {t : Nat} (h : l.length = t) : (l ++ [x]).getD t 0 = x:=by subst h; simp [List.getD]
def sched (m : Nat → Nat) : Nat → List Nat
 | 0 => []
 | t + 1 => let l:=sched m t
  l ++ [if t < 16 then m t else ad (ad (ad (sg1 (l.getD (t - 2) 0)) (l.getD (t - 7) 0)) (sg0 (l.getD (t - 15) 0))) (l.getD (t - 16) 0)]
theorem zhh (m : Nat → Nat) : ∀ t,(sched m t).length = t
 | 0 => rfl
 | t + 1 => by simp [sched,zhh m t]
def wt (m : Nat → Nat) (t : Nat) : Nat:=(sched m (t + 1)).getD t 0
theorem zff (m : Nat → Nat) (t : Nat) : ∀ n,t < n → (sched m n).getD t 0 = wt m t
 | 0,h => by omega
 | n + 1,h => by
  by_cases e : t = n
  ·
   subst e; rfl
  ·
   have ih:=zff m t n (by omega)
   rw [← ih]
   show (sched m n ++ _).getD t 0 = _
   rw [getD_lo _ _ (by rw [zhh]; omega)]
theorem wt_lo (m : Nat → Nat) {t : Nat} (h : t < 16) : wt m t = m t:=by
 unfold wt
 show (sched m t ++ _).getD t 0 = _
 rw [getD_at _ _ (zhh m t),if_pos h]
theorem wt_hi (m : Nat → Nat) {t : Nat} (h : ¬ t < 16) : wt m t = ad (ad (ad (sg1 (wt m (t - 2))) (wt m (t - 7))) (sg0 (wt m (t - 15)))) (wt m (t - 16)):=by
 conv => lhs; unfold wt
 show (sched m t ++ _).getD t 0 = _
 rw [getD_at _ _ (zhh m t),if_neg h,zff m _ t (by omega),zff m _ t (by omega),zff m _ t (by omega),zff m _ t (by omega)]
structure St where
 a : Nat
 b : Nat
 c : Nat
 d : Nat
 e : Nat
 f : Nat
 g : Nat
 h : Nat
def t1N (s : St) (k w : Nat) : Nat:=ad (ad (ad (ad s.h (bs1 s.e)) (chN s.e s.f s.g)) k) w
def t2N (s : St) : Nat:=ad (bs0 s.a) (majN s.a s.b s.c)
def stepN (s : St) (k w : Nat) : St:=⟨ad (t1N s k w) (t2N s),s.a,s.b,s.c,ad s.d (t1N s k w),s.e,s.f,s.g⟩
def roundsN (m : Nat → Nat) (s : St) : Nat → St
 | 0 => s
 | t + 1 => stepN (roundsN m s t) (kc t) (wt m t)
def addSt (x y : St) : St:=⟨ad x.a y.a,ad x.b y.b,ad x.c y.c,ad x.d y.d,ad x.e y.e,ad x.f y.f,ad x.g y.g,ad x.h y.h⟩
def blockN (m : Nat → Nat) (s : St) : St:=addSt s (roundsN m s 64)
def word (text : Nat → Nat) (i : Nat) : Nat:=text i * 16777216 + text (i + 1) * 65536 + text (i + 2) * 256 + text (i + 3)
def blocksN (text : Nat → Nat) : Nat → St
 | 0 => ⟨1779033703,3144134277,1013904242,2773480762,1359893119,2600822924,528734635,1541459225⟩
 | n + 1 => blockN (fun t => word text (64 * n + 4 * t)) (blocksN text n)
def nBlocks (len : Nat) : Nat:=(len + 9 + 63) / 64
def padded (b : Nat → Nat) (len : Nat) : Nat → Nat:=fun i =>
 if i < len then b i else if i = len then 128 else if i < 64 * nBlocks len - 8 then 0 else 8 * len / 256 ^ (64 * nBlocks len - 1 - i) % 256
def shaSt (b : Nat → Nat) (len : Nat) : St:=blocksN (padded b len) (nBlocks len)
end Go.Proofs.YtmfjigcdhijkjaaGreatDoor
namespace Go.Proofs.YtmfjigcdhijkjaaGreatDoor
theorem wrap32 (n : Int) : IntKind.u32.wrap n = n % 4294967296:=by simp [IntKind.wrap,IntKind.signed,IntKind.bits]
section
variable (a b : Nat) (ha : a < 4294967296) (hb : b < 4294967296)
include ha hb
theorem ofInt32 : (BitVec.ofInt 32 (a : Int)).toNat = a ∧ (BitVec.ofInt 32 (b : Int)).toNat = b:=by
 constructor <;> (rw [BitVec.ofInt_natCast,BitVec.toNat_ofNat]; exact Nat.mod_eq_of_lt (by omega))
theorem and32 : bits .and .u32 (a : Int) (b : Int) = ((a &&& b : Nat) : Int):=by
 have hx : a &&& b < 2 ^ 32:=Nat.and_lt_two_pow _ (by omega)
 show IntKind.u32.wrap ((BitVec.ofInt 32 (a : Int) &&& BitVec.ofInt 32 (b : Int)).toNat : Int) = _
 rw [BitVec.toNat_and,(ofInt32 a b ha hb).1,(ofInt32 a b ha hb).2,wrap32]
 omega
theorem or32 : bits .or .u32 (a : Int) (b : Int) = ((a ||| b : Nat) : Int):=by
 have hx : a ||| b < 2 ^ 32:=Nat.or_lt_two_pow (by omega) (by omega)
 show IntKind.u32.wrap ((BitVec.ofInt 32 (a : Int) ||| BitVec.ofInt 32 (b : Int)).toNat : Int) = _
 rw [BitVec.toNat_or,(ofInt32 a b ha hb).1,(ofInt32 a b ha hb).2,wrap32]
 omega
theorem xor32 : bits .xor .u32 (a : Int) (b : Int) = ((a ^^^ b : Nat) : Int):=by
 have hx : a ^^^ b < 2 ^ 32:=Nat.xor_lt_two_pow (by omega) (by omega)
 show IntKind.u32.wrap ((BitVec.ofInt 32 (a : Int) ^^^ BitVec.ofInt 32 (b : Int)).toNat : Int) = _
 rw [BitVec.toNat_xor,(ofInt32 a b ha hb).1,(ofInt32 a b ha hb).2,wrap32]
 omega
end
theorem not_bit {x : Nat} (hx : x < 2 ^ 32) (i : Nat) : (4294967295 - x).testBit i = (decide (i < 32) && !x.testBit i):=by
 have h:=Nat.testBit_two_pow_sub_succ hx i
 rwa [show 2 ^ 32 - (x + 1) = 4294967295 - x by omega] at h
theorem ch_or {x y z : Nat} (hx : x < 2 ^ 32) : chN x y z = (x &&& y) ||| ((4294967295 - x) &&& z):=by
 unfold chN
 apply Nat.eq_of_testBit_eq
 intro i
 simp only [Nat.testBit_xor,Nat.testBit_or,Nat.testBit_and,not_bit hx]
 cases x.testBit i <;> simp
theorem maj_or (x y z : Nat) : majN x y z = (x &&& y) ||| (x &&& z) ||| (y &&& z):=by
 unfold majN
 apply Nat.eq_of_testBit_eq
 intro i
 simp only [Nat.testBit_xor,Nat.testBit_or,Nat.testBit_and]
 cases x.testBit i <;> cases y.testBit i <;> cases z.testBit i <;> rfl
theorem rot_or {x n : Nat} (hn : n ≤ 32) (hx : x < 2 ^ 32) : rot x n = (x / 2 ^ n) ||| (x * 2 ^ (32 - n) % 2 ^ 32):=by
 have hp : 0 < 2 ^ n:=Nat.pow_pos (by omega)
 have e : 2 ^ 32 = 2 ^ (32 - n) * 2 ^ n:=by rw [← Nat.pow_add]; congr 1; omega
 have hq : x / 2 ^ n < 2 ^ (32 - n):=by rw [Nat.div_lt_iff_lt_mul hp,← e]; exact hx
 have h1 : x * 2 ^ (32 - n) % 2 ^ 32 = 2 ^ (32 - n) * (x % 2 ^ n):=by rw [e,Nat.mul_comm x,Nat.mul_mod_mul_left]
 rw [h1,Nat.or_comm,← Nat.two_pow_add_eq_or_of_lt hq]
 unfold rot
 omega
/-! ### all is below 2^32 -/
theorem ad_lt (x y : Nat) : ad x y < 2 ^ 32:=Nat.mod_lt _ (by decide)
theorem shr_lt {x : Nat} (n : Nat) (hx : x < 2 ^ 32) : x / 2 ^ n < 2 ^ 32:=Nat.lt_of_le_of_lt (Nat.div_le_self _ _) hx
theorem wt_lt {m : Nat → Nat} (hm : ∀ t,t < 16 → m t < 2 ^ 32) (t : Nat) : wt m t < 2 ^ 32:=by
 by_cases h : t < 16
 ·
  rw [wt_lo m h]; exact hm t h
 ·
  rw [wt_hi m h]; exact ad_lt _ _
structure St.Ok (s : St) : Prop where
 a : s.a < 2 ^ 32
 b : s.b < 2 ^ 32
 c : s.c < 2 ^ 32
 d : s.d < 2 ^ 32
 e : s.e < 2 ^ 32
 f : s.f < 2 ^ 32
 g : s.g < 2 ^ 32
 h : s.h < 2 ^ 32
theorem stepN_ok {s : St} (h : s.Ok) (k w : Nat) : (stepN s k w).Ok:=⟨ad_lt _ _,h.a,h.b,h.c,ad_lt _ _,h.e,h.f,h.g⟩
theorem zhr {m : Nat → Nat} {s : St} (h : s.Ok) : ∀ t,(roundsN m s t).Ok
 | 0 => h
 | t + 1 => stepN_ok (zhr h t) _ _
theorem blockN_ok (m : Nat → Nat) (s : St) : (blockN m s).Ok:=⟨ad_lt _ _,ad_lt _ _,ad_lt _ _,ad_lt _ _,ad_lt _ _,ad_lt _ _,ad_lt _ _,ad_lt _ _⟩
theorem zic (text : Nat → Nat) : ∀ n,(blocksN text n).Ok
 | 0 => by constructor <;> (show _ < _; simp [blocksN])
 | n + 1 => blockN_ok _ _
theorem zfv {f g : Nat → Nat} : ∀ n,(∀ i,i < 64 * n → f i = g i) → blocksN f n = blocksN g n
 | 0,_ => rfl
 | n + 1,h => by
  have ih:=zfv n fun i hi => h i (by omega)
  have hw : ∀ t,t < 16 → word f (64 * n + 4 * t) = word g (64 * n + 4 * t):=by
   intro t ht
   unfold word
   rw [h _ (by omega),h _ (by omega),h _ (by omega),h _ (by omega)]
  have hs : ∀ k,sched (fun t => word f (64 * n + 4 * t)) k = sched (fun t => word g (64 * n + 4 * t)) k:=by
   intro k
   induction k with
   | zero => simp only [sched]
   | succ k ihk =>
    simp only [sched]
    rw [ihk]
    by_cases hk : k < 16
    ·
     simp only [if_pos hk]; rw [hw k hk]
    ·
     simp only [if_neg hk]
  have hr : ∀ s k,roundsN (fun t => word f (64 * n + 4 * t)) s k = roundsN (fun t => word g (64 * n + 4 * t)) s k:=by
   intro s k
   induction k with
   | zero => simp only [roundsN]
   | succ k ihk =>
    simp only [roundsN]
    rw [ihk]; unfold wt; rw [hs]
  simp only [blocksN]
  rw [ih]; unfold blockN; rw [hr]
end Go.Proofs.YtmfjigcdhijkjaaGreatDoor
namespace Go.Proofs.YtmfjigcdhijkjaaGreatDoor
open Go.RowKit
open Go.Value renaming int → vI
open Go.IntKind renaming u64 → vU
open Go.Act renaming put → aP
open List renaming setIfInBounds_toArray → lA, set_cons_zero → lZ, set_cons_succ → lS
def St.at (s : St) (j : Nat) : Nat:=match j with | 0 => s.a | 1 => s.b | 2 => s.c | 3 => s.d | 4 => s.e | 5 => s.f | 6 => s.g | _ => s.h
theorem St.at_lt {s : St} (h : s.Ok) (j : Nat) : s.at j < 2 ^ 32:=by
 unfold St.at
 split
 ·
  exact h.a
 ·
  exact h.b
 ·
  exact h.c
 ·
  exact h.d
 ·
  exact h.e
 ·
  exact h.f
 ·
  exact h.g
 ·
  exact h.h
def hcells (s : St) (blk : Nat → Nat) (len : Nat) : Nat → Value:=fun j => if j < 8 then .int .u32 (s.at j : Nat) else if j < 72 then .int .u8 (blk (j - 8) : Nat) else .int .i64 (len : Int)
def HRow (w : World) (g : Nat) (s : St) (blk : Nat → Nat) (len : Nat) : Prop:=w.rowIs g 118 73 (hcells s blk len)
section
variable {w w' : World} {g B len : Nat} {s : St} {blk : Nat → Nat}
theorem HRow.lt (h : HRow w g s blk len) : g < w.heap.size:=World.rowIs.lt h
theorem HRow.below (h : HRow w g s blk len) (hb : Below B w w') (hlt : g < B) : HRow w' g s blk len:=zab h hb hlt
theorem HRow.call (h : HRow w g s blk len) (hb : Below w.heap.size w w') : HRow w' g s blk len:=zab h hb h.lt
theorem HRow.alloc (h : HRow w g s blk len) (o : Obj) : HRow (w.alloc o) g s blk len:=World.rowIs.alloc h o
theorem HRow.drew (h : HRow w g s blk len) : HRow w.drew g s blk len:=h
theorem HRow.drewN (h : HRow w g s blk len) (k : Nat) : HRow (w.drewN k) g s blk len:=h
theorem HRow.of_block (h : HRow w g s blk len) (e : w'.heap[g]? = w.heap[g]?) : HRow w' g s blk len:=World.rowIs.of_block h e
theorem HRow.state (h : HRow w g s blk len) {j : Nat} (hj : j < 8) : w.cell? ⟨g,j,none⟩ = some (.int .u32 (s.at j : Nat)):=by
 rw [World.rowIs.cell h (show j < 73 by omega),hcells,if_pos hj]
theorem HRow.byte (h : HRow w g s blk len) {j : Nat} (hj : j < 64) : w.cell? ⟨g,8 + j,none⟩ = some (.int .u8 (blk j : Nat)):=by
 rw [World.rowIs.cell h (show 8 + j < 73 by omega),hcells,if_neg (by omega),if_pos (by omega),show 8 + j - 8 = j by omega]
theorem HRow.length (h : HRow w g s blk len) : w.cell? ⟨g,72,none⟩ = some (.int .i64 (len : Int)):=by
 rw [World.rowIs.cell h (show 72 < 73 by omega),hcells,if_neg (by omega),if_neg (by omega)]
theorem HRow.block (h : HRow w g s blk len) : w.rangeAt g 8 ((List.range 64).map fun j => Value.int .u8 (blk j : Nat)):=by
 intro j v hv
 have hj : j < 64:=by simpa using (List.getElem?_eq_some_iff.1 hv).1
 rw [h.byte hj,← hv]
 simp [hj]
theorem HRow.words (h : HRow w g s blk len) : w.rangeAt g 0 ((List.range 8).map fun j => Value.int .u32 (s.at j : Nat)):=by
 intro j v hv
 have hj : j < 8:=by simpa using (List.getElem?_eq_some_iff.1 hv).1
 rw [Nat.zero_add,h.state hj,← hv]
 simp [hj]
end
structure KT (w : World) : Prop where
 lt : 0 < w.heap.size
 cell : ∀ j,j < 64 → w.cell? ⟨0,j,none⟩ = some (.int .u32 (kc j : Nat))
section
variable {w w' : World} {B : Nat}
theorem KT.of_block (h : KT w) (e : w'.heap[0]? = w.heap[0]?) (hs : w.heap.size ≤ w'.heap.size) : KT w' :=
 ⟨Nat.lt_of_lt_of_le h.lt hs,fun j hj => (World.cell?_of_block (w:=w) (a:=⟨0,j,none⟩) e).trans (h.cell j hj)⟩
theorem KT.below (h : KT w) (hb : Below B w w') (hB : 0 < B) : KT w':=h.of_block (hb.block 0 hB) hb.size
theorem KT.call (h : KT w) (hb : Below w.heap.size w w') : KT w':=h.below hb h.lt
theorem KT.alloc (h : KT w) (o : Obj) : KT (w.alloc o):=h.of_block (Below.heap_alloc _ _ _ h.lt) (by simp)
theorem KT.drew (h : KT w) : KT w.drew:=⟨h.lt,h.cell⟩
theorem KT.drewN (h : KT w) (k : Nat) : KT (w.drewN k):=⟨h.lt,h.cell⟩
theorem KT.far {b i : Nat} (h : KT w) (hne : 0 ≠ b) (v : Value) : KT (w.setCell ⟨b,i,none⟩ v):=h.of_block (Below.heap_setCell _ _ _ _ hne) (by simp [World.setCell])
theorem KT.grown {r : Nat} (h : KT w) (hg : w.grownBy w' (some r)) (hne : 0 ≠ r) : KT w':=h.of_block (hg.block 0 h.lt (by simpa using hne)) hg.size
end
end Go.Proofs.YtmfjigcdhijkjaaGreatDoor
namespace Go.Proofs.YtmfjigcdhijkjaaGreatDoor
open Go.RowKit
open Go.Value renaming int → vI
open Go.IntKind renaming u64 → vU
open Go.Act renaming put → aP
open List renaming setIfInBounds_toArray → lA, set_cons_zero → lZ, set_cons_succ → lS
theorem veil32 {p : Prop} (h : p) : Hid p:=h
theorem zes (x n : Nat) (hx : x < 2 ^ 32) (hn : n ≤ 32) (w : World) :
  Calls Tryz.prog 133 #[.int .u32 (x : Int),.int .i64 (n : Int)] w fun e w' => e = .returned (.int .u32 (rot x n : Nat)) ∧ w' = w:=by
 have HX:=veil32 hx
 clear hx
 have hni : (n : Int) ≤ 32:=by omega
 go_enter Tryz.func133,Tryz.ntmps133
 go_wp2
 go_loopw [0,5] (fun y i wr => ∃ k : Nat,k ≤ n ∧ i = .int .i64 (k : Int) ∧ y = .int .u32 (rot x k : Nat) ∧ wr = w)
  (fun _ i _ => n - (intOf i).toNat)
 case atStart => exact ⟨0,by omega,rfl,by rw [rot_zero],rfl⟩
 case round =>
  obtain ⟨k,hk,rfl,rfl,rfl⟩:=hrel
  by_cases hlt : k < n
  ·
   have hlti : (k : Int) < (n : Int):=by omega
   have hs:=rot_step (x:=x) (n:=k) (by omega)
   have hl:=zby (x:=x) (n:=k) (by omega) HX.out
   have hl2:=zby (x:=x) (n:=k + 1) (by omega) HX.out
   obtain ⟨y,hy⟩ : ∃ y : Int,y = ((rot x k : Nat) : Int):=⟨_,rfl⟩
   obtain ⟨z,hz⟩ : ∃ z : Int,z = ((rot x (k + 1) : Nat) : Int):=⟨_,rfl⟩
   have e : y / 2 + 2147483648 * (y % 2) = z:=by omega
   have y0 : 0 ≤ y:=by omega
   have y1 : y ≤ 4294967295:=by omega
   have z1 : z ≤ 4294967295:=by omega
   rw [← hy]
   have HZ:=veil32 hz
   clear hs hl hl2 hy hz
   have hd : y % 2 = 1 ∨ y % 2 = 0:=by omega
   rcases hd with h | h
   ·
    rw [h] at e
    have e2 : y / 2 + 2147483648 = z:=by omega
    clear e
    go_wp2
    go_roundw
    case rel => exact ⟨k + 1,by omega,by go_num,by rw [← HZ.out],trivial⟩
    case measure => simp [intOf]; omega
   ·
    rw [h] at e
    have e2 : y / 2 = z:=by omega
    clear e
    go_wp2
    go_roundw
    case rel => exact ⟨k + 1,by omega,by go_num,by rw [← HZ.out,e2],trivial⟩
    case measure => simp [intOf]; omega
  ·
   obtain rfl : k = n:=by omega
   go_wp2
   go_ret
   exact ⟨rfl,rfl⟩
theorem shift_calls (x n : Nat) (hx : x < 2 ^ 32) (hn : n ≤ 32) (w : World) :
  Calls Tryz.prog 134 #[.int .u32 (x : Int),.int .i64 (n : Int)] w fun e w' => e = .returned (.int .u32 (x / 2 ^ n : Nat)) ∧ w' = w:=by
 have HX:=veil32 hx
 clear hx
 have hni : (n : Int) ≤ 32:=by omega
 go_enter Tryz.func134,Tryz.ntmps134
 go_wp2
 go_loopw [0,5] (fun y i wr => ∃ k : Nat,k ≤ n ∧ i = .int .i64 (k : Int) ∧ y = .int .u32 (x / 2 ^ k : Nat) ∧ wr = w)
  (fun _ i _ => n - (intOf i).toNat)
 case atStart => exact ⟨0,by omega,rfl,by rw [Nat.pow_zero,Nat.div_one],rfl⟩
 case round =>
  obtain ⟨k,hk,rfl,rfl,rfl⟩:=hrel
  by_cases hlt : k < n
  ·
   have hlti : (k : Int) < (n : Int):=by omega
   have hs : x / 2 ^ (k + 1) = x / 2 ^ k / 2:=by rw [Nat.pow_succ,Nat.div_div_eq_div_mul]
   have hl : x / 2 ^ k < 2 ^ 32:=Nat.lt_of_le_of_lt (Nat.div_le_self _ _) HX.out
   obtain ⟨y,hy⟩ : ∃ y : Int,y = ((x / 2 ^ k : Nat) : Int):=⟨_,rfl⟩
   obtain ⟨z,hz⟩ : ∃ z : Int,z = ((x / 2 ^ (k + 1) : Nat) : Int):=⟨_,rfl⟩
   have HZ:=veil32 hz
   rw [hs] at hz
   rw [← hy]
   generalize x / 2 ^ k = q at *
   have e2 : y / 2 = z:=by omega
   have y0 : 0 ≤ y:=by omega
   have y1 : y ≤ 4294967295:=by omega
   clear hs hl hy hz
   go_wp2
   go_roundw
   case rel => exact ⟨k + 1,by omega,by go_num,by rw [← HZ.out,e2],trivial⟩
   case measure => simp [intOf]; omega
  ·
   obtain rfl : k = n:=by omega
   go_wp2
   go_ret
   exact ⟨rfl,rfl⟩
end Go.Proofs.YtmfjigcdhijkjaaGreatDoor
