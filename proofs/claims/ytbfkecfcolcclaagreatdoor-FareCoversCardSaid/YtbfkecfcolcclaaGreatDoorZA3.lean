/-
  Of Pt Q1 Ce G8 QA J1 Own T1 T2 Sch T5 K1 K2 K4 Gv K6 K7 K9 J0.
-/
import Derived.WalkKit
import Derived.Deep.WholeRow
import Derived.DeepKeys
import Derived.Deep.CutRange
import Derived.Deep.RegionHeld3
import Derived.BigQuiet
import Derived.Deep.Cut
import Derived.Test.YtbfkecfcolcclaaGreatDoorRows
import Derived.WalkSpells
import Derived.WalkLawsBesides
import Derived.OwnWalk
import Derived.RegionTactic
import Derived.Deep.AppendLies
import Derived.Maps.AppendAt
import Derived.BigRegion
import Derived.Laws.BytesString
import Derived.Deep.SlicePairs
import Derived.Deep.LoopGhost
import Derived.ArgAppend
import Derived.Deep.MidRow
import Derived.Laws.OwnMore
import Derived.Laws.Concat
import Derived.Laws.IdiomStrings
import Derived.Great.BuildSlice
import Derived.Lib.SmallJoins
import Derived.Test.YtbfkecfcolcclaaGreatDoorZA2
import Derived.Test.YtbfkecfcolcclaaGreatDoorZA1
set_option maxRecDepth 1000000
set_option maxHeartbeats 20000000
namespace Go.Proofs.YtbfkecfcolcclaaGreatDoor.Pt
section law
variable {n : Nat} [NeZero n]
def Slope (a x1 y1 x2 y2 l : Fin n) : Prop:=l * (x2 - x1) = y2 - y1 ∧ l * (y1 + y2) = x1 * x1 + x1 * x2 + x2 * x2 + a
def OnC (a b x y : Fin n) : Prop:=y * y = x * x * x + a * x + b
def NoZ (n : Nat) [NeZero n] : Prop:=∀ x y : Fin n,x * y = 0 → x = 0 ∨ y = 0
theorem mv1 {x1 y1 x2 y2 l : Fin n} (h : l * (x2 - x1) = y2 - y1) : y1 = y2 - l * (x2 - x1):=by grobner
theorem mv2 {x1 y1 x2 y2 l : Fin n} (h : l * (x2 - x1) = y2 - y1) : y2 = y1 + l * (x2 - x1):=by grobner
theorem zbx {a x1 y1 x2 y2 l : Fin n} (h : Slope a x1 y1 x2 y2 l) : Slope a x2 y2 x1 y1 l:=by
 obtain ⟨h1,h2⟩:=h
 refine ⟨?_,?_⟩ <;> grobner
theorem slope_uniq {a x1 y1 x2 y2 l m : Fin n} (hz : NoZ n) (hn : ¬ (x1 = x2 ∧ y1 + y2 = 0)) (h : Slope a x1 y1 x2 y2 l) (h' : Slope a x1 y1 x2 y2 m) : l = m:=by
 obtain ⟨h1,h2⟩:=h
 obtain ⟨g1,g2⟩:=h'
 have e1 : (l - m) * (x2 - x1) = 0:=by grobner
 have e2 : (l - m) * (y1 + y2) = 0:=by grobner
 rcases hz _ _ e1 with h | h
 ·
  grobner
 ·
  rcases hz _ _ e2 with h' | h'
  ·
   grobner
  ·
   exact absurd ⟨by grobner,h'⟩ hn
theorem on_third {a b x1 y1 x2 y2 l : Fin n} (h : OnC a b x1 y1) (hs : Slope a x1 y1 x2 y2 l) : OnC a b (l * l - x1 - x2) (l * (x1 - (l * l - x1 - x2)) - y1):=by
 obtain ⟨h1,h2⟩:=hs
 have ha : a = 2 * l * y1 + l * l * (x2 - x1) - x1 * x1 - x1 * x2 - x2 * x2:=by grobner
 have hb : b = y1 * y1 - x1 * x1 * x1 - a * x1:=by unfold OnC at h; grobner
 unfold OnC
 subst hb
 subst ha
 grobner
theorem tan0 {x3 xd y3 yd s : Fin n} (h : s * (x3 - xd) = y3 - yd) (hx : xd = x3) : yd = y3:=by subst hx; grobner
theorem tan1 {x1 x2 x3 y2 l m : Fin n} (hR : 2 * (l - m) * y2 = (x1 - x2) * (x1 + x2 + x3 - l * l) - (x3 - x2) * (x1 + x2 + x3 - m * m)) (h : l * l - x1 - x2 = x3) : (l - m) * (2 * y2 + (x3 - x2) * (l + m)) = 0:=by subst h; grobner
theorem tan2 {x2 x3 y2 y3 l m : Fin n} (h : 2 * y2 + (x3 - x2) * (l + m) = 0) (hy : y3 = y2 + m * (x3 - x2)) : y3 + y3 = (x3 - x2) * (m - l):=by subst hy; grobner
theorem tan3 {a x1 x2 x3 y2 y3 l m s : Fin n} (h : 2 * y2 + (x3 - x2) * (l + m) = 0) (hy : y3 = y2 + m * (x3 - x2)) (h4 : y3 + y3 = (x3 - x2) * (m - l)) (hx : l * l - x1 - x2 = x3)
  (m2 : m * (y2 + y3) = x2 * x2 + x2 * x3 + x3 * x3 + a) (s2 : s * (y3 + y3) = x3 * x3 + x3 * x3 + x3 * x3 + a) : (x3 - x2) * ((l - m) * (s + l) - (x1 - x3)) = 0:=by
 have e1 : y2 + y3 = - ((x3 - x2) * l):=by clear m2 s2 hx; subst hy; grobner
 rw [e1] at m2
 rw [h4] at s2
 clear h h4 hy e1
 have e2 : x1 = l * l - x2 - x3:=by grobner
 subst e2
 grobner
theorem sec1 {x1 x2 x3 y2 y3 l m s xd yd : Fin n} (h : s * (x3 - xd) = y3 - yd) (hy : y3 = y2 + m * (x3 - x2)) (hd : yd = l * (x1 - xd) - (y2 - l * (x2 - x1))) : (s + l) * (x3 - xd) = 2 * y2 + (l + m) * (x3 - x2):=by
 subst hy
 subst hd
 grobner
theorem sec2 {x1 x2 x3 y2 l m s : Fin n} (hR : 2 * (l - m) * y2 = (x1 - x2) * (x1 + x2 + x3 - l * l) - (x3 - x2) * (x1 + x2 + x3 - m * m)) (h : (s + l) * (x3 - (l * l - x1 - x2)) = 2 * y2 + (l + m) * (x3 - x2)) :
  (x3 - (l * l - x1 - x2)) * ((l - m) * (s + l) - (x1 - x3)) = 0:=by grobner
theorem keyR {a x1 y1 x2 y2 x3 y3 l m : Fin n} (hl : Slope a x1 y1 x2 y2 l) (hm : Slope a x2 y2 x3 y3 m) : 2 * (l - m) * y2 = (x1 - x2) * (x1 + x2 + x3 - l * l) - (x3 - x2) * (x1 + x2 + x3 - m * m):=by
 obtain ⟨l1,l2⟩:=hl
 obtain ⟨m1,m2⟩:=hm
 have hy1:=mv1 l1
 have hy3:=mv2 m1
 subst hy1
 subst hy3
 clear l1 m1
 grobner
theorem zax {x y : Fin n} (h : x - y = 0) : x = y:=by grobner
theorem key {a x1 y1 x2 y2 x3 y3 l m s : Fin n} (hz : NoZ n) (hlm : l ≠ m) (hl : Slope a x1 y1 x2 y2 l) (hm : Slope a x2 y2 x3 y3 m)
  (hs : Slope a (l * l - x1 - x2) (l * (x1 - (l * l - x1 - x2)) - y1) x3 y3 s) (hn : ¬ (l * l - x1 - x2 = x3 ∧ l * (x1 - (l * l - x1 - x2)) - y1 + y3 = 0)) : (l - m) * (s + l) = x1 - x3:=by
 have hR:=keyR hl hm
 obtain ⟨l1,l2⟩:=hl
 obtain ⟨m1,m2⟩:=hm
 obtain ⟨s1,s2⟩:=hs
 have hy1:=mv1 l1
 have hy3:=mv2 m1
 by_cases hP : l * l - x1 - x2 = x3
 ·
  have hyy:=tan0 s1 hP
  have h3 : 2 * y2 + (x3 - x2) * (l + m) = 0:=by
   rcases hz _ _ (tan1 hR hP) with h | h
   ·
    exact absurd (zax h) hlm
   ·
    exact h
  have h4:=tan2 h3 hy3
  rw [hyy,hP] at s2
  rcases hz _ _ (tan3 h3 hy3 h4 hP m2 s2) with h | h
  ·
   refine absurd ⟨hP,?_⟩ hn
   rw [hyy,h4,h]
   grobner
  ·
   exact zax h
 ·
  rw [hy1] at s1
  rcases hz _ _ (sec2 hR (sec1 s1 hy3 rfl)) with h | h
  ·
   exact absurd (zax h).symm hP
  ·
   exact zax h
structure Cur (n : Nat) [NeZero n] where
 a : Fin n
 b : Fin n
 inv : Fin n → Fin n
structure Good (E : Cur n) : Prop where
 hz : NoZ n
 nt : ∀ x : Fin n,x * x * x + E.a * x + E.b ≠ 0
 two : (2 : Fin n) ≠ 0
 hinv : ∀ x : Fin n,x ≠ 0 → x * E.inv x = 1
def Cur.lam (E : Cur n) (x1 y1 x2 y2 : Fin n) : Fin n:=if x1 = x2 ∧ y1 = y2 then (3 * (x1 * x1) + E.a) * E.inv (y1 + y1) else (y2 - y1) * E.inv (x2 - x1)
abbrev P (n : Nat):=Option (Fin n × Fin n)
def third (x1 y1 x2 l : Fin n) : P n:=some (l * l - x1 - x2,l * (x1 - (l * l - x1 - x2)) - y1)
def Cur.add (E : Cur n) : P n → P n → P n
 | none,q => q
 | p,none => p
 | some (x1,y1),some (x2,y2) => if x1 = x2 ∧ y1 + y2 = 0 then none else third x1 y1 x2 (E.lam x1 y1 x2 y2)
def neg : P n → P n
 | none => none
 | some (x,y) => some (x,- y)
def Cur.on (E : Cur n) : P n → Prop
 | none => True
 | some (x,y) => OnC E.a E.b x y
variable {E : Cur n}
theorem zaw (G : Good E) {x1 y1 x2 y2 : Fin n} (h1 : OnC E.a E.b x1 y1) (h2 : OnC E.a E.b x2 y2) (hn : ¬ (x1 = x2 ∧ y1 + y2 = 0)) : Slope E.a x1 y1 x2 y2 (E.lam x1 y1 x2 y2):=by
 unfold OnC at h1 h2
 unfold Cur.lam
 by_cases hs : x1 = x2 ∧ y1 = y2
 ·
  rw [if_pos hs]
  obtain ⟨rfl,rfl⟩:=hs
  have hi:=G.hinv (y1 + y1) (fun h => hn ⟨rfl,h⟩)
  generalize E.inv (y1 + y1) = i at hi ⊢
  refine ⟨?_,?_⟩
  ·
   clear hi h1 h2; grobner
  ·
   clear h1 h2; grobner
 ·
  rw [if_neg hs]
  by_cases hx : x1 = x2
  ·
   exfalso
   have e : (y1 - y2) * (y1 + y2) = 0:=by subst hx; grobner
   rcases G.hz _ _ e with h | h
   ·
    exact hs ⟨hx,zax h⟩
   ·
    exact hn ⟨hx,h⟩
  ·
   have hx' : x2 - x1 ≠ 0:=fun h => hx (zax h).symm
   have hi:=G.hinv (x2 - x1) hx'
   generalize E.inv (x2 - x1) = i at hi ⊢
   have e1 : (y2 - y1) * i * (x2 - x1) = y2 - y1:=by clear h1 h2; grobner
   refine ⟨e1,?_⟩
   generalize (y2 - y1) * i = l at e1 ⊢
   clear hi
   have e : (x2 - x1) * (l * (y1 + y2) - (x1 * x1 + x1 * x2 + x2 * x2 + E.a)) = 0:=by grobner
   rcases G.hz _ _ e with h | h
   ·
    exact absurd h hx'
   ·
    exact zax h
theorem zbj (G : Good E) {x1 y1 x2 y2 l : Fin n} (h1 : OnC E.a E.b x1 y1) (h2 : OnC E.a E.b x2 y2) (hn : ¬ (x1 = x2 ∧ y1 + y2 = 0)) (hl : Slope E.a x1 y1 x2 y2 l) : E.add (some (x1,y1)) (some (x2,y2)) = third x1 y1 x2 l:=by
 show (if x1 = x2 ∧ y1 + y2 = 0 then none else third x1 y1 x2 (E.lam x1 y1 x2 y2)) = _
 rw [if_neg hn,slope_uniq G.hz hn (zaw G h1 h2 hn) hl]
theorem zbg (E : Cur n) {x1 y1 x2 y2 : Fin n} (hn : x1 = x2 ∧ y1 + y2 = 0) : E.add (some (x1,y1)) (some (x2,y2)) = none:=if_pos hn
theorem zaq (E : Cur n) (p : P n) : E.add none p = p:=by cases p <;> rfl
theorem zav (E : Cur n) (p : P n) : E.add p none = p:=by cases p <;> rfl
theorem zdk {x1 y1 x2 y2 l : Fin n} (h1 : OnC E.a E.b x1 y1) (hl : Slope E.a x1 y1 x2 y2 l) : E.on (third x1 y1 x2 l):=on_third h1 hl
theorem on_add (G : Good E) {p q : P n} (hp : E.on p) (hq : E.on q) : E.on (E.add p q):=by
 rcases p with _ | ⟨x1,y1⟩
 ·
  rw [zaq]; exact hq
 rcases q with _ | ⟨x2,y2⟩
 ·
  rw [zav]; exact hp
 by_cases hn : x1 = x2 ∧ y1 + y2 = 0
 ·
  rw [zbg E hn]; trivial
 ·
  have hl:=zaw G hp hq hn
  rw [zbj G hp hq hn hl]
  exact zdk hp hl
theorem zdb {x1 y1 x2 y2 l a : Fin n} (hl : Slope a x1 y1 x2 y2 l) : third x1 y1 x2 l = third x2 y2 x1 l:=by
 obtain ⟨h1,_⟩:=hl
 unfold third
 have e1 : l * l - x1 - x2 = l * l - x2 - x1:=by clear h1; grobner
 rw [← e1]
 have e2 : l * (x1 - (l * l - x1 - x2)) - y1 = l * (x2 - (l * l - x1 - x2)) - y2:=by
  have:=mv2 h1
  clear h1 e1
  subst this
  grobner
 rw [e2]
theorem opp_symm {x1 y1 x2 y2 : Fin n} (h : x1 = x2 ∧ y1 + y2 = 0) : x2 = x1 ∧ y2 + y1 = 0:=⟨h.1.symm,by have:=h.2; clear h; grobner⟩
theorem zat (G : Good E) {p q : P n} (hp : E.on p) (hq : E.on q) : E.add p q = E.add q p:=by
 rcases p with _ | ⟨x1,y1⟩
 ·
  rw [zaq,zav]
 rcases q with _ | ⟨x2,y2⟩
 ·
  rw [zaq,zav]
 by_cases hn : x1 = x2 ∧ y1 + y2 = 0
 ·
  rw [zbg E hn,zbg E (opp_symm hn)]
 ·
  have hl:=zaw G hp hq hn
  rw [zbj G hp hq hn hl,zbj G hq hp (fun h => hn (opp_symm h)) (zbx hl),zdb hl]
theorem zbh {p : P n} (hp : E.on p) : E.on (neg p):=by
 rcases p with _ | ⟨x1,y1⟩
 ·
  trivial
 ·
  change OnC _ _ _ _ at hp
  change OnC _ _ _ _
  unfold OnC at *
  rw [← hp]
  clear hp
  grobner
theorem zbi (p : P n) : neg (neg p) = p:=by
 rcases p with _ | ⟨x1,y1⟩
 ·
  rfl
 ·
  show some (x1,- - y1) = some (x1,y1)
  have : - - y1 = y1:=by grobner
  rw [this]
theorem zcx (E : Cur n) (p : P n) : E.add p (neg p) = none:=by
 rcases p with _ | ⟨x1,y1⟩
 ·
  rfl
 ·
  exact zbg E ⟨rfl,by grobner⟩
theorem dbl_zero (G : Good E) {y : Fin n} (h : y + y = 0) : y = 0:=by
 have e : 2 * y = 0:=by grobner
 rcases G.hz _ _ e with h | h
 ·
  exact absurd h G.two
 ·
  exact h
theorem y_ne (G : Good E) {x y : Fin n} (h : OnC E.a E.b x y) : y ≠ 0:=by
 intro e
 subst e
 refine G.nt x ?_
 unfold OnC at h
 rw [← h]
 clear h
 grobner
theorem neg_add' (G : Good E) {p q : P n} (hp : E.on p) (hq : E.on q) : neg (E.add p q) = E.add (neg p) (neg q):=by
 rcases p with _ | ⟨x1,y1⟩
 ·
  rw [zaq]; exact (zaq E _).symm
 rcases q with _ | ⟨x2,y2⟩
 ·
  rw [zav]; exact (zav E _).symm
 by_cases hn : x1 = x2 ∧ y1 + y2 = 0
 ·
  rw [zbg E hn]
  exact (zbg E ⟨hn.1,by have:=hn.2; clear hn; grobner⟩).symm
 ·
  have hl:=zaw G hp hq hn
  rw [zbj G hp hq hn hl]
  have hn' : ¬ (x1 = x2 ∧ - y1 + - y2 = 0):=fun h => hn ⟨h.1,by have:=h.2; clear h hl hn hp hq; grobner⟩
  generalize E.lam x1 y1 x2 y2 = l at hl ⊢
  have hl' : Slope E.a x1 (- y1) x2 (- y2) (- l):=by
   obtain ⟨g1,g2⟩:=hl
   refine ⟨?_,?_⟩
   ·
    clear g2 hn hn' hp hq; grobner
   ·
    rw [← g2]; clear g1 g2 hn hn' hp hq; grobner
  have hN : E.add (neg (some (x1,y1))) (neg (some (x2,y2))) = third x1 (- y1) x2 (- l):=zbj G (zbh hp) (zbh hq) hn' hl'
  rw [hN]
  clear hl' hl hn hn' hN hp hq
  show some (_,_) = some (_,_)
  have e1 : - l * - l - x1 - x2 = l * l - x1 - x2:=by grobner
  rw [e1]
  have e2 : - (l * (x1 - (l * l - x1 - x2)) - y1) = - l * (x1 - (l * l - x1 - x2)) - - y1:=by grobner
  rw [e2]
theorem rot (G : Good E) {p q : P n} (hp : E.on p) (hq : E.on q) : E.add q (neg (E.add p q)) = neg p:=by
 rcases p with _ | ⟨x1,y1⟩
 ·
  rw [zaq]; exact zcx E q
 rcases q with _ | ⟨x2,y2⟩
 ·
  rw [zaq,zav]
 by_cases hn : x1 = x2 ∧ y1 + y2 = 0
 ·
  rw [zbg E hn]
  show E.add (some (x2,y2)) none = some (x1,- y1)
  rw [zav]
  obtain ⟨rfl,h⟩:=hn
  have : y2 = - y1:=by clear hp hq; grobner
  rw [this]
 ·
  have hl:=zaw G hp hq hn
  rw [zbj G hp hq hn hl]
  generalize E.lam x1 y1 x2 y2 = l at hl
  have h3 : E.on (neg (third x1 y1 x2 l)):=zbh (zdk hp hl)
  change E.add _ (some (l * l - x1 - x2,- (l * (x1 - (l * l - x1 - x2)) - y1))) = _
  change E.on (some (l * l - x1 - x2,- (l * (x1 - (l * l - x1 - x2)) - y1))) at h3
  obtain ⟨g1,g2⟩:=hl
  have hy:=mv1 g1
  have e1 : - (l * (x1 - (l * l - x1 - x2)) - y1) = y2 + l * (l * l - x1 - x2 - x2):=by clear g1 g2 h3 hn hp hq; subst hy; grobner
  rw [e1] at h3 ⊢
  have hs : Slope E.a x2 y2 (l * l - x1 - x2) (y2 + l * (l * l - x1 - x2 - x2)) l:=by
   refine ⟨?_,?_⟩
   ·
    clear g1 g2 h3 hn hp hq hy e1; grobner
   ·
    have : E.a = l * (y1 + y2) - (x1 * x1 + x1 * x2 + x2 * x2):=by rw [g2]; clear g1 g2 h3 hn hp hq hy e1; grobner
    rw [this,hy]
    clear this g1 g2 h3 hn hp hq hy e1
    grobner
  have hn2 : ¬ (x2 = l * l - x1 - x2 ∧ y2 + (y2 + l * (l * l - x1 - x2 - x2)) = 0):=by
   rintro ⟨h,h'⟩
   rw [← h] at h'
   refine y_ne G hq (dbl_zero G ?_)
   rw [← h']
   clear h h' hs g1 g2 h3 hn hp hq hy e1
   grobner
  rw [zbj G hq h3 hn2 hs]
  show some (_,_) = some (_,_)
  have e2 : l * l - x2 - (l * l - x1 - x2) = x1:=by clear hn2 hs g1 g2 h3 hn hp hq hy e1; grobner
  have e3 : l * (x2 - x1) - y2 = - y1:=by rw [hy]; clear hn2 hs g1 g2 h3 hn hp hq hy e1 e2; grobner
  rw [e2,e3]
theorem back (G : Good E) {p q : P n} (hp : E.on p) (hq : E.on q) : E.add (neg q) (E.add p q) = p:=by
 have h:=rot G hp hq
 have h2:=congrArg neg h
 rw [zbi,neg_add' G hq (zbh (on_add G hp hq)),zbi] at h2
 exact h2
theorem fore (G : Good E) {p q : P n} (hp : E.on p) (hq : E.on q) : E.add p (E.add (neg p) q) = q:=by
 have h:=back G hq (zbh hp)
 rw [zbi,zat G hq (zbh hp)] at h
 exact h
theorem opp_eq {x1 y1 x2 y2 : Fin n} (h : x1 = x2 ∧ y1 + y2 = 0) : (some (x2,y2) : P n) = neg (some (x1,y1)):=by
 obtain ⟨rfl,h⟩:=h
 have : y2 = - y1:=by grobner
 rw [this]
 rfl
theorem two_ways (G : Good E) {x1 y1 x2 y2 x3 y3 : Fin n} (h1 : OnC E.a E.b x1 y1) (h2 : OnC E.a E.b x2 y2) (h3 : OnC E.a E.b x3 y3)
  (n12 : ¬ (x1 = x2 ∧ y1 + y2 = 0)) (n32 : ¬ (x3 = x2 ∧ y3 + y2 = 0))
  (nl : E.add (some (x1,y1)) (some (x2,y2)) ≠ neg (some (x3,y3))) (nr : E.add (some (x3,y3)) (some (x2,y2)) ≠ neg (some (x1,y1))) :
  E.add (E.add (some (x1,y1)) (some (x2,y2))) (some (x3,y3)) = E.add (E.add (some (x3,y3)) (some (x2,y2))) (some (x1,y1)):=by
 have hl:=zaw G h1 h2 n12
 have hm:=zaw G h3 h2 n32
 have el:=zbj G h1 h2 n12 hl
 have em:=zbj G h3 h2 n32 hm
 generalize E.lam x1 y1 x2 y2 = l at hl el
 generalize E.lam x3 y3 x2 y2 = m at hm em
 rw [el] at nl ⊢
 rw [em] at nr ⊢
 have onD : E.on (third x1 y1 x2 l):=zdk h1 hl
 have onF : E.on (third x3 y3 x2 m):=zdk h3 hm
 unfold third at nl nr onD onF ⊢
 have nD : ¬ (l * l - x1 - x2 = x3 ∧ l * (x1 - (l * l - x1 - x2)) - y1 + y3 = 0):=by
  intro h
  refine nl ?_
  rw [opp_eq h]
  exact (zbi _).symm
 have nF : ¬ (m * m - x3 - x2 = x1 ∧ m * (x3 - (m * m - x3 - x2)) - y3 + y1 = 0):=by
  intro h
  refine nr ?_
  rw [opp_eq h]
  exact (zbi _).symm
 have hs:=zaw G onD h3 nD
 have ht:=zaw G onF h1 nF
 rw [zbj G onD h3 nD hs,zbj G onF h1 nF ht,zdb hs,zdb ht]
 generalize E.lam (l * l - x1 - x2) _ x3 y3 = s at hs
 generalize E.lam (m * m - x3 - x2) _ x1 y1 = t at ht
 by_cases hlm : l = m
 ·
  subst hlm
  have hR:=keyR hl (zbx hm)
  have e : (x1 - x3) * (x1 + x2 + x3 - l * l) = 0:=by clear hs ht nD nF nl nr onD onF n12 n32 h1 h2 h3 hl hm el em; grobner
  have hy1:=mv1 hl.1
  have hy3:=mv1 hm.1
  rcases G.hz _ _ e with h | h
  ·
   have hx : x1 = x3:=zax h
   have hy : y1 = y3:=by rw [hy1,hy3,hx]
   subst hx
   subst hy
   have:=slope_uniq G.hz nD hs ht
   rw [this]
  ·
   refine absurd ⟨?_,?_⟩ nD
   ·
    clear hs ht nD nF nl nr onD onF n12 n32 h1 h2 h3 hl hm el em hR e hy1 hy3; grobner
   ·
    have e2 : l * l - x1 - x2 = x3:=by clear hs ht nD nF nl nr onD onF n12 n32 h1 h2 h3 hl hm el em hR e hy1 hy3; grobner
    rw [e2,hy1,hy3]
    clear hs ht nD nF nl nr onD onF n12 n32 h1 h2 h3 hl hm el em hR e hy1 hy3 h e2
    grobner
 ·
  have k1:=key G.hz hlm hl (zbx hm) hs nD
  have k2:=key G.hz (fun h => hlm h.symm) hm (zbx hl) ht nF
  have hk : (l - m) * (s + l - (t + m)) = 0:=by clear hs ht nD nF nl nr onD onF n12 n32 h1 h2 h3 hl hm el em; grobner
  have hk2 : s = t + m - l:=by
   rcases G.hz _ _ hk with h | h
   ·
    exact absurd (zax h) hlm
   ·
    clear hs ht nD nF nl nr onD onF n12 n32 h1 h2 h3 hl hm el em hk k1 k2; grobner
  have hy1:=mv1 hl.1
  have hy3:=mv1 hm.1
  have hx : x3 = x1 + (m - l) * (t + m):=by rw [k2]; clear hs ht nD nF nl nr onD onF n12 n32 h1 h2 h3 hl hm el em hk k1 k2; grobner
  clear hs ht nD nF nl nr onD onF n12 n32 h1 h2 h3 hl hm el em hk k1 k2
  unfold third
  have ex : s * s - x3 - (l * l - x1 - x2) = t * t - x1 - (m * m - x3 - x2):=by
   clear hy1 hy3
   subst hk2
   subst hx
   grobner
  rw [ex]
  have ey : s * (x3 - (t * t - x1 - (m * m - x3 - x2))) - y3 = t * (x1 - (t * t - x1 - (m * m - x3 - x2))) - y1:=by
   clear ex
   subst hy1
   subst hy3
   subst hk2
   subst hx
   grobner
  rw [ey]
theorem assoc (G : Good E) {p q r : P n} (hp : E.on p) (hq : E.on q) (hr : E.on r) : E.add (E.add p q) r = E.add p (E.add q r):=by
 have hpq:=on_add G hp hq
 have hqr:=on_add G hq hr
 rcases p with _ | ⟨x1,y1⟩
 ·
  rw [zaq,zaq]
 rcases q with _ | ⟨x2,y2⟩
 ·
  rw [zaq,zav]
 rcases r with _ | ⟨x3,y3⟩
 ·
  rw [zav,zav]
 by_cases n12 : x1 = x2 ∧ y1 + y2 = 0
 ·
  rw [zbg E n12,zaq,opp_eq n12]
  exact (fore G hp hr).symm
 by_cases n32 : x3 = x2 ∧ y3 + y2 = 0
 ·
  rw [zbg E (opp_symm n32),zav,opp_eq n32,zat G (on_add G hp (zbh hr)) hr,zat G hp (zbh hr)]
  exact fore G hr hp
 by_cases nl : E.add (some (x1,y1)) (some (x2,y2)) = neg (some (x3,y3))
 ·
  have h:=rot G hp hq
  rw [nl,zbi] at h
  rw [nl,h,zcx,zat G (zbh hr) hr,zcx]
 by_cases nr : E.add (some (x3,y3)) (some (x2,y2)) = neg (some (x1,y1))
 ·
  have h:=rot G hr hq
  rw [nr,zbi] at h
  rw [zat G hq hr,nr,zcx,zat G hp hq,h,zat G (zbh hr) hr,zcx]
 rw [two_ways G hp hq hr n12 n32 nl nr,zat G (on_add G hr hq) hp,zat G hr hq]
end law
theorem php : ∀ (b a : Nat) (f : Nat → Nat),(∀ i,i < a → f i < b) → (∀ i j,i < a → j < a → f i = f j → i = j) → a ≤ b:=by
 intro b
 induction b with
 | zero =>
  intro a f h _
  rcases Nat.eq_zero_or_pos a with h0 | h0
  ·
   omega
  ·
   have:=h 0 h0; omega
 | succ b ih =>
  intro a f h inj
  rcases a with _ | a
  ·
   omega
  ·
   have hv:=h a (by omega)
   have:=ih a (fun i => if f i = b then f a else f i) (by
    intro i hi
    have h1:=h i (by omega)
    by_cases e : f i = b
    ·
     rw [if_pos e]
     have : f a ≠ b:=fun e2 => by have:=inj i a (by omega) (by omega) (by rw [e,e2]); omega
     omega
    ·
     rw [if_neg e]; omega) (by
    intro i j hi hj e
    have ha : ∀ k,k < a → f k ≠ f a:=fun k hk e2 => by have:=inj k a (by omega) (by omega) e2; omega
    have e : (if f i = b then f a else f i) = (if f j = b then f a else f j):=e
    by_cases e1 : f i = b <;> by_cases e2 : f j = b
    ·
     exact inj i j (by omega) (by omega) (by rw [e1,e2])
    ·
     rw [if_pos e1,if_neg e2] at e; exact absurd e.symm (ha j hj)
    ·
     rw [if_neg e1,if_pos e2] at e; exact absurd e (ha i hi)
    ·
     rw [if_neg e1,if_neg e2] at e; exact inj i j (by omega) (by omega) e)
   omega
structure Ab (α : Type) where
 op : α → α → α
 o : α
 ng : α → α
 comm : ∀ p q,op p q = op q p
 assoc : ∀ p q r,op (op p q) r = op p (op q r)
 ido : ∀ p,op o p = p
 ngo : ∀ p,op p (ng p) = o
namespace Ab
variable {α : Type} (A : Ab α)
theorem oid (p : α) : A.op p A.o = p:=by rw [A.comm,A.ido]
theorem back (p q : α) : A.op (A.op p q) (A.ng q) = p:=by rw [A.assoc,A.ngo,A.oid]
def mul : Nat → α → α
 | 0,_ => A.o
 | k + 1,p => A.op (mul k p) p
theorem mul_succ (k : Nat) (p : α) : A.mul (k + 1) p = A.op (A.mul k p) p:=rfl
theorem mul_add (i k : Nat) (p : α) : A.mul (i + k) p = A.op (A.mul i p) (A.mul k p):=by
 induction k with
 | zero => show A.mul i p = A.op (A.mul i p) A.o; rw [A.oid]
 | succ k ih => show A.op (A.mul (i + k) p) p = A.op (A.mul i p) (A.op (A.mul k p) p); rw [ih,A.assoc]
theorem mul_one (p : α) : A.mul 1 p = p:=A.ido p
variable {A}
end Ab
def Pr (q : Nat) : Prop:=q ≠ 1 ∧ ∀ d,d ∣ q → d = 1 ∨ d = q
def prodl : List Nat → Nat
 | [] => 1
 | q :: l => q * prodl l
theorem pr_in : ∀ (l : List Nat) (c : Nat),(∀ q,q ∈ l → Pr q) → c ∣ prodl l → c ≠ 1 → ∃ q,q ∈ l ∧ q ∣ c
 | [],c,_,h,h1 => absurd (Nat.eq_one_of_dvd_one h) h1
 | q :: l,c,hp,h,h1 => by
  rcases (hp q (List.mem_cons_self)).2 _ (Nat.gcd_dvd_right c q) with h2 | h2
  ·
   have h3 : c ∣ prodl l:=Nat.Coprime.dvd_of_dvd_mul_left h2 h
   obtain ⟨r,hr,hr2⟩:=pr_in l c (fun r hr => hp r (List.mem_cons_of_mem _ hr)) h3 h1
   exact ⟨r,List.mem_cons_of_mem _ hr,hr2⟩
  ·
   exact ⟨q,List.mem_cons_self,by rw [← h2]; exact Nat.gcd_dvd_left c q⟩
theorem part_of {l : List Nat} {N d : Nat} (hl : prodl l = N) (hp : ∀ q,q ∈ l → Pr q) (h0 : 0 < N) (hd : d ∣ N) (hne : d ≠ N) : ∃ q,q ∈ l ∧ d ∣ N / q:=by
 obtain ⟨c,hc⟩:=hd
 have hc1 : c ≠ 1:=fun h => hne (by rw [hc,h,Nat.mul_one])
 obtain ⟨q,hq,k,hk⟩:=pr_in l c hp ⟨d,by rw [hl,hc,Nat.mul_comm]⟩ hc1
 refine ⟨q,hq,k,?_⟩
 have hq0 : 0 < q:=by
  rcases Nat.eq_zero_or_pos q with h | h
  ·
   subst h; rw [Nat.zero_mul] at hk; subst hk; rw [Nat.mul_zero] at hc; omega
  ·
   exact h
 rw [hc,hk,Nat.mul_left_comm,Nat.mul_div_cancel_left _ hq0]
section power
variable {n : Nat} [NeZero n]
theorem val_one (hn : 1 < n) : (1 : Fin n).val = 1:=by
 show 1 % n = 1
 exact Nat.mod_eq_of_lt hn
def pf (g : Fin n) : Nat → Fin n
 | 0 => 1
 | k + 1 => pf g k * g
theorem mul_one' (x : Fin n) : x * 1 = x:=by grobner
theorem zdn (x : Fin n) : 1 * x = x:=by grobner
theorem zde (x y z : Fin n) : x * y * z = x * (y * z):=by grobner
theorem mul_comm' (x y : Fin n) : x * y = y * x:=by grobner
theorem pf_add (g : Fin n) (i k : Nat) : pf g (i + k) = pf g i * pf g k:=by
 induction k with
 | zero => exact (mul_one' _).symm
 | succ k ih => show pf g (i + k) * g = pf g i * (pf g k * g); rw [ih,zde]
theorem pf_one (k : Nat) : pf (1 : Fin n) k = 1:=by
 induction k with
 | zero => rfl
 | succ k ih => show pf 1 k * 1 = 1; rw [ih,mul_one']
theorem pf_mul (g : Fin n) (i k : Nat) : pf g (i * k) = pf (pf g i) k:=by
 induction k with
 | zero => rfl
 | succ k ih => rw [Nat.mul_succ,pf_add,ih]; rfl
theorem pf_gcd (g : Fin n) (i k : Nat) : pf g i = 1 → pf g k = 1 → pf g (Nat.gcd i k) = 1:=by
 refine Nat.gcd.induction i k ?_ ?_
 ·
  intro k _ h
  rwa [Nat.gcd_zero_left]
 ·
  intro i k hi ih h1 h2
  rw [Nat.gcd_rec]
  refine ih ?_ h1
  have e:=Nat.div_add_mod k i
  rw [← e,pf_add,pf_mul,h1,pf_one,zdn] at h2
  exact h2
theorem pf_dvd (g : Fin n) {i k : Nat} (h : i ∣ k) (h1 : pf g i = 1) : pf g k = 1:=by
 obtain ⟨c,rfl⟩:=h
 rw [pf_mul,h1,pf_one]
structure Root (g : Fin n) : Prop where
 one : pf g (n - 1) = 1
 all : ∀ x : Fin n,x ≠ 0 → ∃ i,x = pf g i
theorem root_of {g : Fin n} {l : List Nat} (hn : 1 < n) (hl : prodl l = n - 1) (hp : ∀ q,q ∈ l → Pr q) (h1 : pf g (n - 1) = 1) (hq : ∀ q,q ∈ l → pf g ((n - 1) / q) ≠ 1) : Root g:=by
 refine ⟨h1,?_⟩
 have z1 : (0 : Fin n) ≠ 1:=by
  intro h
  have h : (0 : Fin n).val = (1 : Fin n).val:=congrArg Fin.val h
  rw [Fin.val_zero,val_one hn] at h
  omega
 have big : ∀ e,0 < e → e < n - 1 → pf g e ≠ 1:=by
  intro e h0 h2 h3
  have h4:=pf_gcd g (n - 1) e h1 h3
  have hle:=Nat.le_of_dvd h0 (Nat.gcd_dvd_right (n - 1) e)
  obtain ⟨q,hql,hqd⟩:=part_of hl hp (by omega) (Nat.gcd_dvd_left (n - 1) e) (by omega)
  exact hq q hql (pf_dvd g hqd h4)
 have nz : ∀ i,i < n → pf g i ≠ 0:=by
  intro i hi h
  have e : pf g (i + (n - 1 - i)) = 1 ∨ i = n - 1 + 1:=by
   left
   rw [show i + (n - 1 - i) = n - 1 by omega,h1]
  rcases e with e | e
  ·
   rw [pf_add,h] at e
   exact z1 (by rw [← e]; grobner)
  ·
   omega
 have inj : ∀ i j,i < j → j < n → 0 < i → pf g i ≠ pf g j:=by
  intro i j h2 h3 h0 h
  refine big (j - i) (by omega) (by omega) ?_
  have e1 : pf g i * pf g (n - 1 - i) = 1:=by rw [← pf_add,show i + (n - 1 - i) = n - 1 by omega,h1]
  have e2 : pf g j = pf g (j - i) * pf g i:=by rw [← pf_add,show j - i + i = j by omega]
  rw [e2] at h
  have e3 : pf g i * pf g (n - 1 - i) = pf g (j - i) * (pf g i * pf g (n - 1 - i)):=by rw [← zde,← h]
  rw [e1,mul_one'] at e3
  exact e3.symm
 intro x hx
 refine Classical.byContradiction fun hno => ?_
 have hx0 : x.val ≠ 0:=fun h => hx (Fin.ext (by rw [h,Fin.val_zero]))
 have hno2 : ∀ i,(pf g i).val ≠ x.val:=fun i h => hno ⟨i,Fin.ext h.symm⟩
 have nz2 : ∀ i,i < n → (pf g i).val ≠ 0:=fun i hi h => nz i hi (Fin.ext (by rw [h,Fin.val_zero]))
 have:=php (n - 2) (n - 1) (fun i => if (pf g (i + 1)).val = n - 1 then x.val - 1 else (pf g (i + 1)).val - 1) (by
  intro i hi
  have a1:=nz2 (i + 1) (by omega)
  have a2:=(pf g (i + 1)).isLt
  have a3:=hno2 (i + 1)
  have a4:=x.isLt
  show (if (pf g (i + 1)).val = n - 1 then x.val - 1 else (pf g (i + 1)).val - 1) < n - 2
  split <;> omega) (by
  intro i j hi hj h
  have h : (if (pf g (i + 1)).val = n - 1 then x.val - 1 else (pf g (i + 1)).val - 1) = (if (pf g (j + 1)).val = n - 1 then x.val - 1 else (pf g (j + 1)).val - 1):=h
  have a1:=nz2 (i + 1) (by omega)
  have b1:=nz2 (j + 1) (by omega)
  have a3:=hno2 (i + 1)
  have b3:=hno2 (j + 1)
  have e : (pf g (i + 1)).val = (pf g (j + 1)).val:=by
   split at h <;> split at h <;> omega
  have e : pf g (i + 1) = pf g (j + 1):=Fin.ext e
  rcases Nat.lt_trichotomy i j with h3 | h3 | h3
  ·
   exact absurd e (inj _ _ (by omega) (by omega) (by omega))
  ·
   exact h3
  ·
   exact absurd e.symm (inj _ _ (by omega) (by omega) (by omega)))
 omega
theorem root_inv {g : Fin n} (h : Root g) {x : Fin n} (hx : x ≠ 0) : pf x (n - 1) = 1:=by
 obtain ⟨i,rfl⟩:=h.all x hx
 rw [← pf_mul,Nat.mul_comm,pf_mul,h.one,pf_one]
theorem root_inv2 {g : Fin n} (h : Root g) (hn : 1 < n) {x : Fin n} (hx : x ≠ 0) : x * pf x (n - 2) = 1:=by
 have:=root_inv h hx
 rw [show n - 1 = n - 2 + 1 by omega] at this
 rw [mul_comm']
 exact this
theorem root_noz {g : Fin n} (h : Root g) (hn : 1 < n) (x y : Fin n) (e : x * y = 0) : x = 0 ∨ y = 0:=by
 by_cases hx : x = 0
 ·
  exact Or.inl hx
 ·
  have hi:=root_inv2 h hn hx
  generalize pf x (n - 2) = i at hi
  right
  have : y = x * i * y:=by rw [hi,zdn]
  rw [this,mul_comm' x i,zde,e]
  clear this hi e hx h
  grobner
theorem root_pr {g : Fin n} (h : Root g) (hn : 1 < n) : Pr n:=by
 refine ⟨by omega,fun d hd => ?_⟩
 have hle:=Nat.le_of_dvd (by omega) hd
 rcases Nat.lt_or_ge d n with hlt | hge
 ·
  left
  have hd0 : 0 < d:=Nat.pos_of_dvd_of_pos hd (by omega)
  have hx : (⟨d,hlt⟩ : Fin n) ≠ 0:=fun e => by have:=congrArg Fin.val e; rw [Fin.val_zero] at this; have this : d = 0:=this; omega
  have hi:=root_inv2 h hn hx
  generalize pf (⟨d,hlt⟩ : Fin n) (n - 2) = i at hi
  have hi:=congrArg Fin.val hi
  rw [Fin.val_mul,val_one hn] at hi
  have hi : d * i.val % n = 1:=hi
  have h2 : d ∣ d * i.val % n:=(Nat.dvd_mod_iff hd).mpr ⟨i.val,rfl⟩
  rw [hi] at h2
  exact Nat.eq_one_of_dvd_one h2
 ·
  right; omega
end power
def pw (m : Nat) : Nat → Nat → Nat → Nat
 | 0,_,_ => 1 % m
 | f + 1,b,e => if e = 0 then 1 % m else if e % 2 = 1 then b * pw m f (b * b % m) (e / 2) % m else pw m f (b * b % m) (e / 2)
section number
variable {n : Nat} [NeZero n]
def F (x : Nat) : Fin n:=⟨x % n,Nat.mod_lt _ (Nat.pos_of_ne_zero (NeZero.ne n))⟩
theorem F_mod (x : Nat) : (F (x % n) : Fin n) = F x:=Fin.ext (Nat.mod_mod _ _)
theorem F_mul (x y : Nat) : (F (x * y) : Fin n) = F x * F y:=Fin.ext (by rw [Fin.val_mul]; exact Nat.mul_mod _ _ _)
theorem F_add (x y : Nat) : (F (x + y) : Fin n) = F x + F y:=Fin.ext (by rw [Fin.val_add]; exact Nat.add_mod _ _ _)
theorem pf_sq (x : Fin n) (k : Nat) : pf (x * x) k = pf x (2 * k):=by
 rw [pf_mul]
 congr 1
 show x * x = 1 * x * x
 rw [zdn]
theorem pw_pf : ∀ (f b e : Nat),e < 2 ^ f → pw n f b e = (pf (F b : Fin n) e).val
 | 0,b,e,h => by
  have : e = 0:=by omega
  subst this
  rfl
 | f + 1,b,e,h => by
  unfold pw
  have hd : e / 2 < 2 ^ f:=by rw [Nat.pow_succ] at h; omega
  have ih:=pw_pf f (b * b % n) (e / 2) hd
  rw [F_mod,F_mul,pf_sq] at ih
  by_cases h0 : e = 0
  ·
   rw [if_pos h0,h0]; rfl
  ·
   rw [if_neg h0]
   by_cases h1 : e % 2 = 1
   ·
    rw [if_pos h1,ih]
    have e1 : e = 2 * (e / 2) + 1:=by omega
    generalize e / 2 = k at e1
    subst e1
    show _ = (pf (F b) (2 * k) * F b).val
    rw [Fin.val_mul,Nat.mul_comm]
    show (pf (F b : Fin n) (2 * k)).val * b % n = (pf (F b : Fin n) (2 * k)).val * (b % n) % n
    rw [Nat.mul_mod _ (b % n),Nat.mod_mod,← Nat.mul_mod]
   ·
    rw [if_neg h1,ih]
    congr 2
    omega
end number
def rowOk (ps : List Nat) (r : Nat × Nat × List Nat) : Bool :=
 decide (1 < r.1) && decide (r.1 < 2 ^ 256) && decide (prodl r.2.2 = r.1 - 1) && r.2.2.all (fun q => ps.contains q) && decide (pw r.1 256 r.2.1 (r.1 - 1) = 1) && r.2.2.all (fun q => decide (pw r.1 256 r.2.1 ((r.1 - 1) / q) ≠ 1))
theorem row_root {ps : List Nat} {n g : Nat} {l : List Nat} [NeZero n] (hp : ∀ q,q ∈ ps → Pr q) (h : rowOk ps (n,g,l) = true) : 1 < n ∧ Root (F g : Fin n):=by
 unfold rowOk at h
 simp only [Bool.and_eq_true,decide_eq_true_eq,List.all_eq_true] at h
 obtain ⟨⟨⟨⟨⟨h1,h2⟩,h3⟩,h4⟩,h5⟩,h6⟩:=h
 have h5 : pw n 256 g (n - 1) = 1:=h5
 have h1 : 1 < n:=h1
 have h2 : n < 2 ^ 256:=h2
 refine ⟨h1,root_of (l:=l) h1 h3 (fun q hq => hp q (by have:=h4 q hq; exact List.contains_iff_mem.mp this)) ?_ ?_⟩
 ·
  apply Fin.ext
  exact (pw_pf (n:=n) 256 g (n - 1) (Nat.lt_of_le_of_lt (Nat.sub_le _ _) h2)).symm.trans (h5.trans (val_one h1).symm)
 ·
  intro q hq e
  have h6 : pw n 256 g ((n - 1) / q) ≠ 1:=h6 q hq
  refine h6 ?_
  have e2:=pw_pf (n:=n) 256 g ((n - 1) / q) (Nat.lt_of_le_of_lt (Nat.div_le_self _ _) (Nat.lt_of_le_of_lt (Nat.sub_le _ _) h2))
  rw [e2]
  exact (congrArg Fin.val e).trans (val_one h1)
def tabOk : List Nat → List (Nat × Nat × List Nat) → Bool
 | _,[] => true
 | ps,r :: t => rowOk ps r && tabOk (r.1 :: ps) t
theorem row_pr {ps : List Nat} {r : Nat × Nat × List Nat} (hp : ∀ q,q ∈ ps → Pr q) (h : rowOk ps r = true) : Pr r.1:=by
 obtain ⟨n,g,l⟩:=r
 show Pr n
 have h1 : 1 < n:=by
  unfold rowOk at h
  simp only [Bool.and_eq_true,decide_eq_true_eq] at h
  exact h.1.1.1.1.1
 haveI : NeZero n:=⟨by omega⟩
 exact root_pr (row_root hp h).2 h1
theorem tab_pr : ∀ (t : List (Nat × Nat × List Nat)) (ps : List Nat),(∀ q,q ∈ ps → Pr q) → tabOk ps t = true → ∀ r,r ∈ t → Pr r.1 ∧ ∃ ps',(∀ q,q ∈ ps' → Pr q) ∧ rowOk ps' r = true
 | [],_,_,_,r,hr => absurd hr List.not_mem_nil
 | r0 :: t,ps,hp,h,r,hr => by
  have h : (rowOk ps r0 && tabOk (r0.1 :: ps) t) = true:=h
  rw [Bool.and_eq_true] at h
  have h0:=row_pr hp h.1
  rcases List.mem_cons.mp hr with e | e
  ·
   rw [e]; exact ⟨h0,ps,hp,h.1⟩
  ·
   refine tab_pr t (r0.1 :: ps) ?_ h.2 r e
   intro q hq
   rcases List.mem_cons.mp hq with e | e
   ·
    rw [e]; exact h0
   ·
    exact hp q e
theorem pr_two : Pr 2:=by
 refine ⟨by decide,fun d hd => ?_⟩
 have:=Nat.le_of_dvd (by decide) hd
 have h0 : d ≠ 0:=by rintro rfl; omega
 omega
def tab : List (Nat × Nat × List Nat):=[
 (257,3,[2,2,2,2,2,2,2,2]),
 (3,2,[2]),
 (5,2,[2,2]),
 (641,3,[2,2,2,2,2,2,2,5]),
 (65537,3,[2,2,2,2,2,2,2,2,2,2,2,2,2,2,2,2]),
 (11,2,[2,5]),
 (727,5,[2,3,11,11]),
 (17449,14,[2,2,2,3,727]),
 (6700417,5,[2,2,2,2,2,2,2,3,17449]),
 (241,7,[2,2,2,2,3,5]),
 (2411,6,[2,5,241]),
 (17,3,[2,2,2,2]),
 (7,3,[2,3]),
 (197,2,[2,2,7,7]),
 (43,3,[2,3,7]),
 (173,2,[2,2,43]),
 (13,2,[2,2,3]),
 (53,2,[2,2,13]),
 (919,7,[2,3,3,3,17]),
 (3677,2,[2,2,919]),
 (66417393611,6,[2,5,53,173,197,3677]),
 (11290956913871,13,[2,5,17,66417393611]),
 (181,2,[2,2,3,3,5]),
 (1087,3,[2,3,181]),
 (4349,2,[2,2,1087]),
 (78283,3,[2,3,3,4349]),
 (23,5,[2,11]),
 (757,2,[2,2,3,3,3,7]),
 (18169,11,[2,2,2,3,757]),
 (313,10,[2,2,2,3,13]),
 (704251,2,[2,3,3,5,5,5,313]),
 (46076956964474543,5,[2,23,18169,78283,704251]),
 (107,2,[2,53]),
 (157,5,[2,2,3,13]),
 (3769,7,[2,2,2,3,157]),
 (204061199,11,[2,11,23,107,3769]),
 (34282281433,17,[2,2,2,3,7,204061199]),
 (0x22b559b5c816ae00f2378e18df38c5410ed597,3,[2,3,3,2411,34282281433,11290956913871,46076956964474543]),
 (0x926d1276e41fae13fdda5f78edb7802a76951509,11,[2,2,2,3,3,3,5,0x22b559b5c816ae00f2378e18df38c5410ed597]),
 (1531,2,[2,3,3,5,17]),
 (661,2,[2,2,3,5,11]),
 (490463,14,[2,7,53,661]),
 (0xffffffff00000001000000000000000000000000ffffffffffffffffffffffff,6,[2,3,5,5,17,257,641,1531,65537,490463,6700417,0x926d1276e41fae13fdda5f78edb7802a76951509]),
 (131,2,[2,5,13]),
 (71,7,[2,5,7]),
 (37,2,[2,2,3,3]),
 (9547,2,[2,3,37,43]),
 (38189,2,[2,2,9547]),
 (3407,5,[2,13,131]),
 (263,5,[2,131]),
 (126241,7,[2,2,2,2,2,3,5,263]),
 (19,2,[2,3,3]),
 (337,10,[2,2,2,2,3,7]),
 (31,3,[2,3,5]),
 (104471,11,[2,5,31,337]),
 (3969899,2,[2,19,104471]),
 (1002328039319,19,[2,126241,3969899]),
 (97,5,[2,2,2,2,2,3]),
 (29,2,[2,2,7]),
 (16879,3,[2,3,29,97]),
 (1297,10,[2,2,2,2,3,3,3,3]),
 (41,6,[2,2,2,5]),
 (155317,5,[2,2,3,7,43,43]),
 (191039911,3,[2,3,5,41,155317]),
 (151,6,[2,3,5,5]),
 (1511,11,[2,5,151]),
 (3023,5,[2,1511]),
 (127,3,[2,3,3,7]),
 (208150935158385979,2,[2,3,11,43,127,3023,191039911]),
 (2624747550333869278416773953,7,[2,2,2,2,2,2,3,3,1297,16879,208150935158385979]),
 (373,2,[2,2,3,31]),
 (311,17,[2,5,31]),
 (311245691,2,[2,5,7,17,29,29,311]),
 (622491383,5,[2,311245691]),
 (1201,11,[2,2,2,2,3,5,5]),
 (229,6,[2,2,3,19]),
 (9350987,2,[2,17,229,1201]),
 (187019741,2,[2,2,5,9350987]),
 (0xffffffff00000000ffffffffffffffffbce6faada7179e84f3b9cac2fc632551,7,[2,2,2,2,3,71,131,373,3407,17449,38189,187019741,622491383,1002328039319,2624747550333869278416773953])]
theorem tab_ok : tabOk [2] tab = true:=by decide +kernel
def pp : Nat:=0xffffffff00000001000000000000000000000000ffffffffffffffffffffffff
def nn : Nat:=0xffffffff00000000ffffffffffffffffbce6faada7179e84f3b9cac2fc632551
instance : NeZero pp:=⟨by decide +kernel⟩
instance : NeZero nn:=⟨by decide +kernel⟩
theorem two_only : ∀ q,q ∈ [2] → Pr q:=by
 intro q hq
 have : q = 2:=List.mem_singleton.mp hq
 rw [this]
 exact pr_two
theorem pp_root : ∃ g : Fin pp,Root g:=by
 obtain ⟨ps,hp,h⟩:=(tab_pr tab [2] two_only tab_ok (0xffffffff00000001000000000000000000000000ffffffffffffffffffffffff,6,[2,3,5,5,17,257,641,1531,65537,490463,6700417,0x926d1276e41fae13fdda5f78edb7802a76951509]) (by decide +kernel)).2
 exact ⟨_,(row_root (n:=pp) hp h).2⟩
/-! P-256. -/
def bb : Nat:=0x5ac635d8aa3a93e7b3ebbd55769886bc651d06b0cc53b0f63bce3c3e27d2604b
def gx : Nat:=0x6b17d1f2e12c4247f8bce6e563a440f277037d812deb33a0f4a13945d898c296
def gy : Nat:=0x4fe342e2fe1a7f9b8ee7eb4a7c0f9e162bce33576b315ececbb6406837bf51f5
def E256 : Cur pp:={ a:=F (pp - 3),b:=F bb,inv:=fun x => pf x (pp - 2) }
theorem pp_big : 3 < pp:=by decide +kernel
theorem F_pp : (F pp : Fin pp) = 0:=Fin.ext (Nat.mod_self pp)
theorem F_one : (F 1 : Fin pp) = 1:=rfl
theorem F_zero : (F 0 : Fin pp) = 0:=rfl
theorem F_three : (F 3 : Fin pp) = 3:=rfl
def sb (x y : Nat) : Nat:=(x + (pp - y % pp)) % pp
theorem F_p3 : (F (pp - 3) : Fin pp) = - 3:=by
 have e : (F (pp - 3) : Fin pp) + 3 = 0:=by
  rw [← F_three,← F_add,Nat.sub_add_cancel (Nat.le_of_lt pp_big),F_pp]
 generalize (F (pp - 3) : Fin pp) = z at e ⊢
 grobner
def tm (u v : Nat × Nat × Nat) : Nat × Nat × Nat :=
 let r3:=u.2.1 * v.2.2 + u.2.2 * v.2.1
 let r4:=u.2.2 * v.2.2
 ((u.1 * v.1 + (pp - bb) * r3) % pp,(u.1 * v.2.1 + u.2.1 * v.1 + 3 * r3 + (pp - bb) * r4) % pp,(u.1 * v.2.2 + u.2.1 * v.2.1 + u.2.2 * v.1 + 3 * r4) % pp)
def ev (u : Nat × Nat × Nat) (r : Fin pp) : Fin pp:=F u.1 + F u.2.1 * r + F u.2.2 * (r * r)
theorem F_bb : (F (pp - bb) : Fin pp) = - F bb:=by
 have e : (F (pp - bb) : Fin pp) + F bb = 0:=by
  rw [← F_add,Nat.sub_add_cancel (by decide +kernel),F_pp]
 generalize (F (pp - bb) : Fin pp) = z at e ⊢
 generalize (F bb : Fin pp) = v at e ⊢
 grobner
theorem ring_tm {n : Nat} [NeZero n] (a0 a1 a2 b0 b1 b2 b r : Fin n) (h : r * r * r = 3 * r - b) : (a0 * b0 + - b * (a1 * b2 + a2 * b1)) + (a0 * b1 + a1 * b0 + 3 * (a1 * b2 + a2 * b1) + - b * (a2 * b2)) * r + (a0 * b2 + a1 * b1 + a2 * b0 + 3 * (a2 * b2)) * (r * r) = (a0 + a1 * r + a2 * (r * r)) * (b0 + b1 * r + b2 * (r * r)):=by
 have : b = 3 * r - r * r * r:=by grobner
 subst this
 clear h
 grobner
theorem tm_ev {r : Fin pp} (h : r * r * r = 3 * r - F bb) (u v : Nat × Nat × Nat) : ev (tm u v) r = ev u r * ev v r:=by
 obtain ⟨a0,a1,a2⟩:=u
 obtain ⟨b0,b1,b2⟩:=v
 unfold tm ev
 dsimp only
 rw [F_mod,F_mod,F_mod]
 simp only [F_add,F_mul]
 rw [F_bb,F_three]
 exact ring_tm _ _ _ _ _ _ _ _ h
def tp : Nat → Nat × Nat × Nat → Nat → Nat × Nat × Nat
 | 0,_,_ => (1,0,0)
 | f + 1,u,e => if e = 0 then (1,0,0) else if e % 2 = 1 then tm u (tp f (tm u u) (e / 2)) else tp f (tm u u) (e / 2)
theorem ring_one {n : Nat} [NeZero n] (r : Fin n) : 1 + 0 * r + 0 * (r * r) = 1:=by grobner
theorem ev_one (r : Fin pp) : ev (1,0,0) r = 1:=by
 unfold ev
 dsimp only
 rw [F_one,F_zero]
 exact ring_one r
theorem tp_ev {r : Fin pp} (h : r * r * r = 3 * r - F bb) : ∀ (f : Nat) (u : Nat × Nat × Nat) (e : Nat),e < 2 ^ f → ev (tp f u e) r = pf (ev u r) e
 | 0,u,e,he => by
  have : e = 0:=by omega
  subst this
  exact ev_one r
 | f + 1,u,e,he => by
  unfold tp
  have hd : e / 2 < 2 ^ f:=by rw [Nat.pow_succ] at he; omega
  have ih:=tp_ev h f (tm u u) (e / 2) hd
  rw [tm_ev h,pf_sq] at ih
  by_cases h0 : e = 0
  ·
   rw [if_pos h0,h0]; exact ev_one r
  ·
   rw [if_neg h0]
   by_cases h1 : e % 2 = 1
   ·
    rw [if_pos h1,tm_ev h,ih]
    have e1 : e = 2 * (e / 2) + 1:=by omega
    generalize e / 2 = k at e1
    subst e1
    exact mul_comm' _ _
   ·
    rw [if_neg h1,ih]
    congr 1
    omega
def tq : Nat × Nat × Nat:=tp 256 (0,1,0) pp
theorem tq_ok : tm (0xa969487079f1744798bf0de6fded091b66e9d328eb0645fe5d979d1339b7f47f,0xa4a08891884100c13323460107a8d28eede4387fa3e6e9bfebec9f6d72d0b5cc,0x4cde11cf86cb876cd59cf0115813c55af0ecd3cda667d98bb9a347a56aa74a6d) (tq.1,tq.2.1 + (pp - 1),tq.2.2) = (1,0,0):=by decide +kernel
theorem no_root (r : Fin pp) : r * r * r + F (pp - 3) * r + F bb ≠ 0:=by
 intro h
 rw [F_p3] at h
 have h3 : r * r * r = 3 * r - F bb:=by
  generalize (F bb : Fin pp) = v at h ⊢
  grobner
 obtain ⟨g,hg⟩:=pp_root
 have e1 : ev tq r = r:=by
  unfold tq
  rw [tp_ev h3 256 _ pp (by decide +kernel)]
  have e0 : ev (0,1,0) r = r:=by
   unfold ev
   dsimp only
   rw [F_one,F_zero]
   clear h h3
   grobner
  rw [e0]
  by_cases hr : r = 0
  ·
   subst hr
   show pf 0 (pp - 1) * 0 = 0
   generalize pf (0 : Fin pp) (pp - 1) = z
   grobner
  ·
   have e2:=root_inv hg hr
   have e3 : pf r (pp - 1 + 1) = pf r (pp - 1) * r:=rfl
   rw [e2,zdn,show pp - 1 + 1 = pp by decide +kernel] at e3
   exact e3
 have e2 : ev (tq.1,tq.2.1 + (pp - 1),tq.2.2) r = ev tq r - r:=by
  have e4 : (F (pp - 1) : Fin pp) = - 1:=by
   have e : (F (pp - 1) : Fin pp) + 1 = 0:=by
    rw [← F_one,← F_add,Nat.sub_add_cancel (by decide +kernel),F_pp]
   generalize (F (pp - 1) : Fin pp) = z at e ⊢
   grobner
  unfold ev
  dsimp only
  rw [F_add,e4]
  generalize (F tq.1 : Fin pp) = a0
  generalize (F tq.2.1 : Fin pp) = a1
  generalize (F tq.2.2 : Fin pp) = a2
  clear h h3 e1
  grobner
 have e5:=tm_ev h3 (0xa969487079f1744798bf0de6fded091b66e9d328eb0645fe5d979d1339b7f47f,0xa4a08891884100c13323460107a8d28eede4387fa3e6e9bfebec9f6d72d0b5cc,0x4cde11cf86cb876cd59cf0115813c55af0ecd3cda667d98bb9a347a56aa74a6d) (tq.1,tq.2.1 + (pp - 1),tq.2.2)
 rw [tq_ok,e2,e1,ev_one] at e5
 generalize ev _ r = z at e5
 have z1 : (0 : Fin pp) ≠ 1:=by decide +kernel
 refine z1 ?_
 rw [e5]
 clear e5 h h3 e1 e2
 grobner
theorem good : Good E256:=by
 obtain ⟨g,hg⟩:=pp_root
 have h1 : 1 < pp:=Nat.lt_trans (by decide) pp_big
 exact { hz:=root_noz hg h1,nt:=no_root,two:=by decide +kernel,hinv:=fun x hx => root_inv2 hg h1 hx }
abbrev Q:={ p : P pp // E256.on p }
def grp : Ab Q where
 op p q:=⟨E256.add p.1 q.1,on_add good p.2 q.2⟩
 o:=⟨none,trivial⟩
 ng p:=⟨neg p.1,zbh p.2⟩
 comm p q:=Subtype.ext (zat good p.2 q.2)
 assoc p q r:=Subtype.ext (assoc good p.2 q.2 r.2)
 ido p:=Subtype.ext (zaq E256 p.1)
 ngo p:=Subtype.ext (zcx E256 p.1)
theorem on_base : E256.on (some (F gx,F gy)):=by
 show F gy * F gy = F gx * F gx * F gx + F (pp - 3) * F gx + F bb
 rw [← F_mul,← F_mul,← F_mul,← F_mul,← F_add,← F_add]
 exact Fin.ext (by decide +kernel)
def base : Q:=⟨some (F gx,F gy),on_base⟩
def eu : Nat → Nat → Nat → Nat → Nat → Nat
 | 0,_,_,s,_ => s
 | f + 1,r,r2,s,s2 => if r2 = 0 then s else eu f r2 (r % r2) s2 ((s + (pp - r / r2 % pp) * s2) % pp)
def iv (x : Nat) : Nat:=eu 600 (x % pp) pp 1 0
def steps' : Nat → Nat → Nat → List (Bool × Nat)
 | 0,_,_ => []
 | i + 1,x,y =>
  (fun l => (true,l) :: (fun x1 y1 => if (nn - 1) / 2 ^ i % 2 = 1 then (fun m => (false,m) :: (fun x2 y2 => steps' i x2 y2) (sb (sb (m * m) x1) gx) (sb (m * sb x1 (sb (sb (m * m) x1) gx)) y1)) (sb gy y1 * iv (sb gx x1) % pp) else steps' i x1 y1) (sb (sb (l * l) x) x) (sb (l * sb x (sb (sb (l * l) x) x)) y)) ((3 * x * x + (pp - 3)) * iv (y + y) % pp)
def steps : List (Bool × Nat):=steps' 255 gx gy
def code : Q → Nat
 | ⟨none,_⟩ => 0
 | ⟨some (x,y),_⟩ => 1 + 2 * x.val + (if y.val ≤ (- y).val then 0 else 1)
/-! How a walk meets these: numbers below the modulus,as values of the field's. -/

theorem v_add (x y : Fin pp) : (x.val + y.val) % pp = (x + y).val:=(Fin.val_add x y).symm
theorem v_mul (x y : Fin pp) : x.val * y.val % pp = (x * y).val:=(Fin.val_mul x y).symm
theorem v_sub (x y : Fin pp) : (x.val + pp - y.val) % pp = (x - y).val:=by
 have h:=y.isLt
 rw [Fin.sub_def]
 show _ = (pp - y.val + x.val) % pp
 congr 1
 omega
def pX : P pp → Nat
 | none => 0
 | some (x,_) => x.val
def pY : P pp → Nat
 | none => 0
 | some (_,y) => y.val
def pFar : P pp → Bool
 | none => true
 | some _ => false
end Go.Proofs.YtbfkecfcolcclaaGreatDoor.Pt
namespace Go.Proofs.YtbfkecfcolcclaaGreatDoor
open Go.RowKit
open Go.Value renaming int → vI
open Go.IntKind renaming u64 → vU
open Go.Act renaming put → aP
open List renaming setIfInBounds_toArray → lA, set_cons_zero → lZ, set_cons_succ → lS
theorem pp_top : Pt.pp < top:=by decide +kernel
/-! ### points: values,rows,'==' -/
def pc (X Y : Nat) (f : Bool) (j : Nat) : Value:=if j < 4 then .int .u64 (wd X j) else if j < 8 then .int .u64 (wd Y (j - 4)) else .bool f
end Go.Proofs.YtbfkecfcolcclaaGreatDoor
namespace Go.Proofs.YtbfkecfcolcclaaGreatDoor
open Go.RowKit
open Go.Value renaming int → vI
open Go.IntKind renaming u64 → vU
open Go.Act renaming put → aP
open List renaming setIfInBounds_toArray → lA, set_cons_zero → lZ, set_cons_succ → lS
theorem gT (X Y X' Y' : Nat) (f f' : Bool) (op : BinOp) (x y : Operand) (W : World) : (eqGuard op 60 x y (qv X Y f) (qv X' Y' f')).run Tryz.prog W = .ok () W:=by
 unfold qv qc
 cases op <;> simp [eqGuard,go_sem]
end Go.Proofs.YtbfkecfcolcclaaGreatDoor
namespace Go.Proofs.YtbfkecfcolcclaaGreatDoor
open Go.RowKit
open Go.Value renaming int → vI
open Go.IntKind renaming u64 → vU
open Go.Act renaming put → aP
open List renaming setIfInBounds_toArray → lA, set_cons_zero → lZ, set_cons_succ → lS
section
variable {w0 : World} {Post : Value → World → Prop} {J : World → Prop}
end
def hf (X M : Nat) : Nat:=if X % 2 = 0 then X / 2 else (X + M) / 2
end Go.Proofs.YtbfkecfcolcclaaGreatDoor
namespace Go.Proofs.YtbfkecfcolcclaaGreatDoor
open Go.RowKit
open Go.Value renaming int → vI
open Go.IntKind renaming u64 → vU
open Go.Act renaming put → aP
open List renaming setIfInBounds_toArray → lA, set_cons_zero → lZ, set_cons_succ → lS
theorem three_lt : 3 < Pt.pp:=by decide +kernel
theorem bb_lt : Pt.bb < Pt.pp:=by decide +kernel
theorem wd_nil (i : Nat) : wd 0 i = 0:=by unfold wd dg; simp
theorem eql_zero {X : Nat} (hX : X < top) (w : World) : (binOp .eql 58 (.agg #[vI vU (wd X 0),vI vU (wd X 1),vI vU (wd X 2),vI vU (wd X 3)]) (.agg #[vI vU 0,vI vU 0,vI vU 0,vI vU 0])).run Tryz.prog w = .ok (.bool (decide (X = 0))) w:=by
 have h:=eql_num hX (show 0 < top by decide) w
 simp only [wd_nil] at h
 exact h
theorem v_three : ((3 : Fin Pt.pp)).val = 3:=by
 rw [← Pt.F_three]
 exact Nat.mod_eq_of_lt three_lt
section
variable {x y z : Fin Pt.pp}
end
/-! ### Neg -/
/-! ### On -/
def rightN (X : Nat) : Nat:=((X * X % Pt.pp * X % Pt.pp + Pt.pp - 3 * X % Pt.pp) % Pt.pp + Pt.bb) % Pt.pp
def onB (X Y : Nat) (f : Bool) : Bool:=if f then decide (X = 0) && decide (Y = 0) else decide (X < Pt.pp) && (decide (Y < Pt.pp) && decide (Y * Y % Pt.pp = rightN X))
theorem right_val (x : Fin Pt.pp) : rightN x.val = (x * x * x - 3 * x + Pt.F Pt.bb).val:=by
 unfold rightN
 have e3 : 3 * x.val % Pt.pp = (3 * x).val:=by rw [← Pt.v_mul,v_three]
 have eb : Pt.bb = (Pt.F Pt.bb : Fin Pt.pp).val:=(Nat.mod_eq_of_lt bb_lt).symm
 rw [e3,Pt.v_mul,Pt.v_mul,Pt.v_sub]
 conv => lhs; rw [eb]
 rw [Pt.v_add]
section
variable (X Y : Nat)
end
/-! ### Add -/
section
variable (X Y : Nat)
end
section
variable {x1 y1 x2 y2 m u d t l a b X c e Y : Fin Pt.pp}
end
end Go.Proofs.YtbfkecfcolcclaaGreatDoor
namespace Go.Proofs.YtbfkecfcolcclaaGreatDoor
structure Ky where
 i : Int
 x : Nat
 y : Nat
 f : Bool
 a : Int
 b : Int
def ky0 : Ky:=⟨0,0,0,false,0,0⟩
def okK (l : List Ky) (j : Nat) : Prop :=
 1 ≤ (l.getD j ky0).i ∧ (l.getD j ky0).i ≤ 2147483647 ∧ onB (l.getD j ky0).x (l.getD j ky0).y (l.getD j ky0).f = true ∧ (l.getD j ky0).f = false ∧ 0 ≤ (l.getD j ky0).a ∧ (l.getD j ky0).a ≤ (l.getD j ky0).b ∧ (l.getD j ky0).b ≤ 1073741824 ∧ (0 < j → (l.getD (j - 1) ky0).i < (l.getD j ky0).i)
instance (l : List Ky) (j : Nat) : Decidable (okK l j):=by unfold okK; exact inferInstance
def mayK (l : List Ky) : Bool:=decide (l.length ≤ 32 ∧ ∀ j,j < l.length → okK l j)
theorem mayK_ok {l : List Ky} (h : mayK l = true) {j : Nat} (hj : j < l.length) : okK l j:=(of_decide_eq_true h).2 j hj
theorem mayK_32 {l : List Ky} (h : mayK l = true) : l.length ≤ 32:=(of_decide_eq_true h).1
/-! ### bytes -/
theorem mayK_each {l : List Ky} (h : mayK l = true) : ∀ k ∈ l,1 ≤ k.i ∧ k.i ≤ 2147483647 ∧ onB k.x k.y false = true ∧ k.f = false ∧ 0 ≤ k.a ∧ k.a ≤ k.b ∧ k.b ≤ 1073741824:=by
 intro k hk
 obtain ⟨j,hj,rfl⟩:=List.mem_iff_getElem.1 hk
 obtain ⟨h1,h2,h3,h4,h5,h6,h7,_⟩:=mayK_ok h hj
 have e : l.getD j ky0 = l[j]:=by rw [List.getD_eq_getElem?_getD,List.getElem?_eq_getElem hj]; rfl
 rw [e] at h1 h2 h3 h4 h5 h6 h7
 rw [h4] at h3
 exact ⟨h1,h2,h3,h4,h5,h6,h7⟩
end Go.Proofs.YtbfkecfcolcclaaGreatDoor
namespace Go.Proofs.YtbfkecfcolcclaaGreatDoor
open Go.RowKit
open Go.Value renaming int → vI
open Go.IntKind renaming u64 → vU
open Go.Act renaming put → aP
open List renaming setIfInBounds_toArray → lA, set_cons_zero → lZ, set_cons_succ → lS
section
variable {w w' : World} {base e n : Nat} {v : Value} {f h : Nat → Value}
end
def From (w : World) (A : Option Addr) (m : Nat) (y : Nat → Value) : Prop:=m = 0 ∨ ∃ ad,A = some ad ∧ ∀ j,j < m → w.cell? (ad.add j) = some (y j)
end Go.Proofs.YtbfkecfcolcclaaGreatDoor
namespace Go.Proofs.YtbfkecfcolcclaaGreatDoor
open Go.RowKit
open Go.Value renaming int → vI
open Go.IntKind renaming u64 → vU
open Go.Act renaming put → aP
open List renaming setIfInBounds_toArray → lA, set_cons_zero → lZ, set_cons_succ → lS
theorem Ext.drewK (w : World) (k : Nat) : Ext w (w.drewN k):=⟨rfl,rfl,rfl,Nat.le_refl _,fun _ _ => rfl⟩
theorem Ext.cell {w w' : World} (h : Ext w w') {b o : Nat} (hb : b < w.heap.size) : w'.cell? ⟨b,o,none⟩ = w.cell? ⟨b,o,none⟩:=Below.cell h (p:=⟨b,o,none⟩) hb
/-! ### bytes -/
def Bs (w : World) (A : Option Addr) (bs : List Nat) : Prop:=Byt bs ∧ (bs.length = 0 ∨ ∃ b o,A = some ⟨b,o,none⟩ ∧ b < w.heap.size ∧ ∀ j,j < bs.length → w.cell? ⟨b,o + j,none⟩ = some (.int .u8 (bs.getD j 0 : Nat)))
theorem Bs.ext {w w' : World} {A : Option Addr} {bs : List Nat} (h : Bs w A bs) (k : Ext w w') : Bs w' A bs :=
 ⟨h.1,h.2.imp id fun ⟨b,o,e,hb,hc⟩ => ⟨b,o,e,Nat.lt_of_lt_of_le hb k.size,fun j hj => (k.cell hb).trans (hc j hj)⟩⟩
theorem Bs.cell {w : World} {A : Option Addr} {bs : List Nat} (h : Bs w A bs) {j : Nat} (hj : j < bs.length) : ∃ b o,A = some ⟨b,o,none⟩ ∧ b < w.heap.size ∧ w.cell? ⟨b,o + j,none⟩ = some (.int .u8 (bs.getD j 0 : Nat)):=by
 rcases h.2 with h | ⟨b,o,e,hb,hc⟩
 ·
  omega
 ·
  exact ⟨b,o,e,hb,hc j hj⟩
theorem Bs.nil (w : World) (A : Option Addr) : Bs w A []:=⟨(fun _ h => by cases h),.inl rfl⟩
/-! ### texts -/
/-! ### fields in memory -/
def Fl (w : World) (v : Value) (fs : List Fd) : Prop:=BytF fs ∧ ∃ AL c,v = .slice AL fs.length c ∧ fs.length ≤ c ∧ (fs.length = 0 ∨ ∃ b o,AL = some ⟨b,o,none⟩ ∧ b < w.heap.size ∧
 ∀ i,i < fs.length → w.cell? ⟨b,o + i * 2,none⟩ = some (.int .i64 (tgF fs i)) ∧ ∃ A c',w.cell? ⟨b,o + i * 2 + 1,none⟩ = some (.slice A (bsF fs i).length c') ∧ (bsF fs i).length ≤ c' ∧ Bs w A (bsF fs i))
theorem Fl.ext {w w' : World} {v : Value} {fs : List Fd} (h : Fl w v fs) (k : Ext w w') : Fl w' v fs:=by
 obtain ⟨hB,AL,c,rfl,hc,h⟩:=h
 refine ⟨hB,AL,c,rfl,hc,h.imp id ?_⟩
 rintro ⟨b,o,e,hb,hx⟩
 refine ⟨b,o,e,Nat.lt_of_lt_of_le hb k.size,fun i hi => ?_⟩
 obtain ⟨h1,A,c',h2,h3,h4⟩:=hx i hi
 exact ⟨(k.cell hb).trans h1,A,c',(k.cell hb).trans h2,h3,h4.ext k⟩
theorem Fl.nil (w : World) : Fl w (.slice none 0 0) []:=⟨fun _ h => (by cases h),none,0,rfl,Nat.le_refl _,.inl rfl⟩
end Go.Proofs.YtbfkecfcolcclaaGreatDoor
namespace Go.Proofs.YtbfkecfcolcclaaGreatDoor
open Go.RowKit
open Go.Value renaming int → vI
open Go.IntKind renaming u64 → vU
open Go.Act renaming put → aP
open List renaming setIfInBounds_toArray → lA, set_cons_zero → lZ, set_cons_succ → lS
theorem mayFs_false {fs : List Fd} {i : Nat} (hi : i < fs.length) (h : ¬ okF fs i) : mayFs fs = false:=decide_eq_false fun hh => h (hh.2 i hi)
theorem mayFs_len {fs : List Fd} (h : ∀ i,i < fs.length → okF fs i) : mayFs fs = decide (fs.length ≤ 64):=by
 unfold mayFs
 by_cases hc : fs.length ≤ 64
 ·
  rw [decide_eq_true hc,decide_eq_true ⟨hc,h⟩]
 ·
  rw [decide_eq_false hc,decide_eq_false fun hh => hc hh.1]
end Go.Proofs.YtbfkecfcolcclaaGreatDoor
namespace Go.Proofs.YtbfkecfcolcclaaGreatDoor
open Go.RowKit
open Go.Value renaming int → vI
open Go.IntKind renaming u64 → vU
open Go.Act renaming put → aP
open List renaming setIfInBounds_toArray → lA, set_cons_zero → lZ, set_cons_succ → lS
structure Gw (D : World → Prop) where
 val : World
 property : D val
abbrev Sub (D : World → Prop) : World → Prop:=fun W => ∃ x : Gw D,W = x.val
section
variable {P : Program} {ops : Array Oper} {Q : Exit → Act → World → Prop} {md : Region.Mode}
/-! ### the quiet walk in every class of grown worlds is a walk of made values -/
def dstsB : List Oper → List Nat
 | [] => []
 | o :: r => (match o.dst with | some d => [d] | none => []) ++ dstsB r
def ownB (size : Nat) : List Oper → Bool
 | [] => true
 | o :: r => (match o.dst with | some d => decide (d < size) && !(dstsB r).contains d | none => false) && ownB size r
theorem put_tmps (a : Act) (d : Nat) (v : Value) : (a.put (some d) v).tmps = a.tmps.setIfInBounds d v:=rfl
theorem zcg {C : World → Prop} {A : Act} : ∀ {l : List Oper} {a : Act} {d : Nat},d ∉ dstsB l → wpQuiet P ops C (fun a' => a' = A) l a → A.tmps[d]? = a.tmps[d]?
 | [],a,d,_,h => by
  have h' : a = A:=h
  rw [h']
 | o :: r,a,d,hd,h => by
  have hr : d ∉ dstsB r:=fun hh => hd (by unfold dstsB; exact List.mem_append_right _ hh)
  have hne : ∀ v,(a.put o.dst v).tmps[d]? = a.tmps[d]?:=fun v => by
   cases ho : o.dst with
   | none => rfl
   | some e =>
    have : e ≠ d:=fun hh => hd (by unfold dstsB; rw [ho]; simp [hh])
    rw [put_tmps,Array.getElem?_setIfInBounds_ne this]
  unfold wpQuiet at h
  split at h
  ·
   obtain ⟨v,_,hK⟩:=h
   rw [zcg hr hK,hne]
  ·
   rw [zcg hr h,hne]
theorem made_of_quiet {o : Oper} {v : Value} {a : Act} {w : World} (h : ∀ W,Ext w W → o.quietAt P a (Sub (Ext W)) W v) : Made P o v a w:=fun W hW => by
 have h1:=h W hW
 unfold Oper.quietAt at h1
 generalize (execOp a.eval o).run P W = r at *
 cases r with
 | ok n w' =>
  cases n <;> simp only [Oper.quietUpon] at h1 <;> simp only [madeUpon]
  case value u => obtain ⟨rfl,rfl⟩:=h1; exact ⟨rfl,Ext.refl _⟩
  case skip => obtain ⟨rfl,rfl⟩:=h1; exact ⟨rfl,Ext.refl _⟩
  case enter f args =>
   obtain ⟨rfl,hc⟩:=h1
   exact hc.mono fun e w'' ⟨he,x,hx⟩ => ⟨he,by rw [hx]; exact x.property⟩
 | halt x w' => simp only [Oper.quietUpon] at h1
structure Up (w : World) (D : World → Prop) : Prop where
 ne : Nonempty (Gw D)
 grown : ∀ W,D W → Ext w W
 up : ∀ W W',D W → Ext W W' → D W'
theorem Up.ext {w : World} (W : World) (h : Ext w W) : Up w (Ext W):=⟨⟨⟨W,Ext.refl W⟩⟩,fun _ k => h.trans k,fun _ _ k k' => k.trans k'⟩
theorem Up.cell {w : World} {D : World → Prop} (h : Up w D) {b o : Nat} {v : Value} (hc : w.cell? ⟨b,o,none⟩ = some v) : ∀ x : Gw D,x.val.cell? ⟨b,o,none⟩ = some v:=fun x => by
 have hb : b < w.heap.size:=World.block_lt_of_cell? w ⟨b,o,none⟩ hc
 exact (Below.cell (h.grown _ x.property) (p:=⟨b,o,none⟩) hb).trans hc
theorem zcj {w : World} {A : Act} : ∀ {l : List Oper} {a : Act},ownB a.tmps.size l = true → (∀ D,Up w D → wpQuiet P ops (Sub D) (fun a' => a' = A) l a) → wpMk P ops w (fun a' => a' = A) l a
 | [],a,_,h => h (Ext w) (Up.ext w (Ext.refl w))
 | o :: r,a,hB,h => by
  unfold ownB at hB
  cases ho : o.dst with
  | none => rw [ho] at hB; simp at hB
  | some d =>
   rw [ho] at hB
   simp only [Bool.and_eq_true,decide_eq_true_eq,Bool.not_eq_true'] at hB
   obtain ⟨⟨hd,hnot⟩,hr⟩:=hB
   have hnot' : d ∉ dstsB r:=fun hh => by
    have : (dstsB r).contains d = true:=by simpa using hh
    rw [hnot] at this; cases this
   have hsz : ∀ v,(a.put o.dst v).tmps.size = a.tmps.size:=fun v => by rw [ho,put_tmps]; simp
   by_cases hw : Region.wanted o (yielded ops a.tmps) = true
   ·
    have each : ∀ D,Up w D → (∀ W,Sub D W → o.quietAt P a (Sub D) W (A.tmps.getD d undef)) ∧ wpQuiet P ops (Sub D) (fun a' => a' = A) r (a.put o.dst (A.tmps.getD d undef)):=fun D hD => by
     have h1:=h D hD
     unfold wpQuiet at h1
     rw [if_pos hw] at h1
     obtain ⟨v,h2,h3⟩:=h1
     have h4:=zcg hnot' h3
     rw [ho,put_tmps,Array.getElem?_setIfInBounds_self_of_lt hd] at h4
     have hv : A.tmps.getD d undef = v:=by simp [h4]
     rw [hv]
     exact ⟨h2,h3⟩
    refine ⟨A.tmps.getD d undef,.inl ⟨hw,made_of_quiet fun W hW => ?_⟩,zcj (by rw [hsz]; exact hr) fun D hD => (each D hD).2⟩
    exact (each (Ext W) (Up.ext W hW)).1 W ⟨⟨W,Ext.refl W⟩,rfl⟩
   ·
    have hw' : Region.wanted o (yielded ops a.tmps) = false:=by simpa using hw
    refine ⟨undef,.inr ⟨hw',rfl⟩,zcj (by rw [hsz]; exact hr) fun D hD => ?_⟩
    have h1:=h D hD
    unfold wpQuiet at h1
    rwa [if_neg hw] at h1
/-! ### schedules -/
def lateS (md : Region.Mode) (ops : Array Oper) (n : Nat) : Bool :=
 decide (ops.size ≤ n) || (((List.range n).all fun i => (List.range (n + 1)).any fun j => decide (i < j) && Region.waitsFor md ops j i) && (List.range ops.size).all fun t => decide (t ≤ n) || Region.waitsFor md ops t n)
theorem lateS_one {n : Nat} {listed : Array Bool} (hB : ((List.range n).all fun i => (List.range (n + 1)).any fun j => decide (i < j) && Region.waitsFor md ops j i) = true) (inv : Closed md ops listed) :
  ∀ (d i : Nat),n - i = d → i < n → listed.getD i false = false → listed.getD n false = false ∧ n ∉ Region.ready md ops listed:=by
 intro d
 induction d using Nat.strongRecOn with
 | _ d ih =>
  intro i hd hi hun
  have h1:=List.all_eq_true.1 hB i (List.mem_range.2 hi)
  obtain ⟨j,hj,hj2⟩:=List.any_eq_true.1 h1
  simp only [Bool.and_eq_true,decide_eq_true_eq] at hj2
  have hjn:=List.mem_range.1 hj
  obtain ⟨oj,hoj,e,he,hb,hon⟩:=Region.waitsFor_spec hj2.2
  have hlj : listed.getD j false = false:=by
   cases h2 : listed.getD j false with
   | false => rfl
   | true =>
    have h3:=inv.2 j oj hoj h2 e he hb
    rw [hon,hun] at h3
    cases h3
  by_cases hl : j = n
  ·
   subst hl
   refine ⟨hlj,fun hr => ?_⟩
   obtain ⟨_,oj',hoj',hall⟩:=mem_ready.1 hr
   have : oj = oj':=Option.some.inj (hoj.symm.trans hoj')
   subst this
   have h3:=hall e he hb
   rw [hon,hun] at h3
   cases h3
  ·
   exact ih (n - j) (by omega) j rfl (by omega) hlj
theorem lateS_spec {n i : Nat} {listed : Array Bool} (hB : lateS md ops n = true) (inv : Closed md ops listed) (hi : i < n) (hun : listed.getD i false = false)
  {t : Nat} (ht : t ∈ Region.ready md ops listed) : t < n:=by
 obtain ⟨_,ot,hot,hall⟩:=mem_ready.1 ht
 have htl : t < ops.size:=(Array.getElem?_eq_some_iff.1 hot).1
 unfold lateS at hB
 simp only [Bool.or_eq_true,decide_eq_true_eq,Bool.and_eq_true] at hB
 rcases hB with hB | ⟨hB1,hB2⟩
 ·
  omega
 ·
  obtain ⟨hn1,hn2⟩:=lateS_one hB1 inv _ i rfl hi hun
  have h1:=List.all_eq_true.1 hB2 t (List.mem_range.2 htl)
  simp only [Bool.or_eq_true,decide_eq_true_eq] at h1
  rcases h1 with h1 | h1
  ·
   have : t ≠ n:=fun e => hn2 (e ▸ ht)
   omega
  ·
   obtain ⟨o',ho',e,he,hb,hon⟩:=Region.waitsFor_spec h1
   have : o' = ot:=Option.some.inj (ho'.symm.trans hot)
   subst this
   have h2:=hall e he hb
   rw [hon,hn1] at h2
   cases h2
theorem S_first {i n : Nat} {oi : Oper} {v : Value} (hi : ops[i]? = some oi) (hsel : ∀ (j : Nat) (o : Oper) cs b,ops[j]? = some o → o.op ≠ .select cs b)
  (hQ : ∀ c a w,Q (.panic c) (a.put oi.dst v) w → Q (.panic c) a w) (hB : lateS md ops n = true) (him : i < n) :
  ∀ (fuel : Nat) (listed : Array Bool) (a : Act) (w : World),Closed md ops listed →
   (∀ j oj,ops[j]? = some oj → j ≠ i → listed.getD j true = false → (∀ e ∈ oj.after,Region.binds md e = true → e.on ≠ i) → oi.apart ops oj = true) →
   i ∈ Region.ready md ops listed → YieldsE P ops oi v a w →
   wpG P md ops Q n fuel (listed.setIfInBounds i true) (a.put oi.dst v) w → wpG P md ops Q n (fuel + 1) listed a w:=by
 intro fuel
 induction fuel with
 | zero =>
  intro listed a w _ _ hr hy H
  refine ⟨fun h => (by rw [h] at hr; cases hr),fun j hj W hW => ?_⟩
  by_cases hji : j = i
  ·
   subst hji; exact hy.wpOp hi hW fun W' hW' => ⟨fun _ => hW',H.ext (hW.trans hW')⟩
  ·
   have:=ready_mono hj hji
   rw [H.1] at this
   cases this
 | succ fuel ih =>
  intro listed a w inv hfree hr hy H
  refine ⟨fun h => (by rw [h] at hr; cases hr),fun j hj W hW => ?_⟩
  by_cases hji : j = i
  ·
   subst hji; exact hy.wpOp hi hW fun W' hW' => ⟨fun _ => hW',H.ext (hW.trans hW')⟩
  ·
   have hun:=getD_both (mem_ready.1 hr).1
   have hjn : j < n:=lateS_spec hB inv him hun hj
   have h1:=H.2 j (ready_mono hj hji) W hW
   obtain ⟨hjun,oj,hoj,hall⟩:=mem_ready.1 hj
   have hnot : ∀ e ∈ oj.after,Region.binds md e = true → e.on ≠ i:=fun e he hb heq => by
    have h2:=hall e he hb
    rw [heq,hun] at h2
    cases h2
   have h2:=wpOp_putE hoj (hfree j oj hoj hji hjun hnot) (fun cs b => hsel i oi cs b hi) (fun cs b => hsel j oj cs b hoj) hQ (fun a' w' hk => hk.1 hjn)
    (hy.of_same hW rfl rfl) h1
   have hfree' : ∀ k ok,ops[k]? = some ok → k ≠ i → (listed.setIfInBounds j true).getD k true = false →
     (∀ e ∈ ok.after,Region.binds md e = true → e.on ≠ i) → oi.apart ops ok = true:=fun k ok hk hki hunk hno => by
    refine hfree k ok hk hki ?_ hno
    by_cases hjk : j = k
    ·
     subst hjk; exact hjun
    ·
     rw [getD_set_ne true hjk] at hunk; exact hunk
   refine wpOp_mono (fun a' w' h3 => ⟨h3.2.1,ih (listed.setIfInBounds j true) a' w' (inv.set hj) hfree' (ready_mono hr (Ne.symm hji)) h3.1 ?_⟩) h2
   rw [Array.setIfInBounds_comm _ _ hji]
   exact h3.2.2
abbrev Sched:=List (Bool × List Nat)
def takeI (md : Region.Mode) (ops : Array Oper) (n : Nat) : List Nat → Array Bool → Bool
 | [],_ => true
 | k :: r,listed => (Region.ready md ops listed).contains k && Region.free md ops listed k && decide (k < n) && takeI md ops n r (listed.setIfInBounds k true)
def oneI (md : Region.Mode) (ops : Array Oper) : List Nat → Array Bool → Bool
 | [],_ => true
 | k :: r,listed => (Region.ready md ops listed == [k]) && oneI md ops r (listed.setIfInBounds k true)
def markI : List Nat → Array Bool → Array Bool
 | [],listed => listed
 | k :: r,listed => markI r (listed.setIfInBounds k true)
def schedI (md : Region.Mode) (ops : Array Oper) (n : Nat) : Sched → Array Bool → Bool
 | [],listed => (Region.ready md ops listed).isEmpty
 | (true,is) :: r,listed => takeI md ops n is listed && schedI md ops n r (markI is listed)
 | (false,is) :: r,listed => oneI md ops is listed && schedI md ops n r (markI is listed)
def consO : Option Oper → List Oper → List Oper
 | some o,r => o :: r
 | none,r => r
def pickI (l : List Oper) : List Nat → List Oper
 | [] => []
 | k :: r => consO l[k]? (pickI l r)
def wpOne (P : Program) (ops : Array Oper) (Q : Exit → Act → World → Prop) (n : Nat) (R : Act → World → Prop) : List Nat → Act → World → Prop
 | [],a,w => R a w
 | k :: r,a,w => ∀ W,Ext w W → wpOp P ops Q k (fun a' W' => (k < n → Ext W W') ∧ wpOne P ops Q n R r a' W') a W
def wpSched (P : Program) (l : List Oper) (Q : Exit → Act → World → Prop) (n : Nat) : Sched → Act → World → Prop
 | [],a,w => ∀ W,Ext w W → Q .normal a W
 | (true,is) :: r,a,w => wpMk P l.toArray w (fun a' => wpSched P l Q n r a' w) (pickI l is) a
 | (false,is) :: r,a,w => wpOne P l.toArray Q n (fun a' w' => wpSched P l Q n r a' w') is a w
def lenI : Sched → Nat
 | [] => 0
 | (_,is) :: r => is.length + lenI r
theorem S_take {n g : Nat} {l : List Oper} (hsel : Region.noSelect l.toArray = true) (hQ : ∀ (o : Oper) v c a w,Q (.panic c) (a.put o.dst v) w → Q (.panic c) a w) (hB : lateS md l.toArray n = true) {w : World} {R : Act → Prop} {L : Array Bool}
  (hR : ∀ a,R a → Closed md l.toArray L → wpG P md l.toArray Q n g L a w) : ∀ (is : List Nat) (listed : Array Bool) (a : Act),Closed md l.toArray listed →
  takeI md l.toArray n is listed = true → markI is listed = L → wpMk P l.toArray w R (pickI l is) a → wpG P md l.toArray Q n (is.length + g) listed a w
 | [],listed,a,inv,_,hL,h => by
  have hL' : listed = L:=hL
  subst hL'
  simpa using hR a h inv
 | k :: r,listed,a,inv,hX,hL,h => by
  simp only [takeI,Bool.and_eq_true,decide_eq_true_eq] at hX
  obtain ⟨⟨⟨hr,hf⟩,hkn⟩,hX'⟩:=hX
  have hr' : k ∈ Region.ready md l.toArray listed:=by simpa using hr
  obtain ⟨_,o,h0,_⟩:=mem_ready.1 hr'
  have h0' : l[k]? = some o:=by simpa using h0
  unfold pickI at h
  rw [h0'] at h
  obtain ⟨v,hy,hK⟩:=h
  rw [List.length_cons,show r.length + 1 + g = (r.length + g) + 1 by omega]
  exact S_first h0 (Region.noSelect_spec hsel) (hQ o v) hB hkn _ listed a w inv (Region.free_spec h0 hf) hr' hy
   (S_take hsel hQ hB hR r _ _ (inv.set hr') hX' hL hK)
theorem S_one {n g : Nat} {l : List Oper} {R : Act → World → Prop} {L : Array Bool} (hRx : ∀ a w w',R a w → Ext w w' → R a w')
  (hR : ∀ a w,R a w → Closed md l.toArray L → wpG P md l.toArray Q n g L a w) : ∀ (is : List Nat) (listed : Array Bool) (a : Act) (w : World),Closed md l.toArray listed →
  oneI md l.toArray is listed = true → markI is listed = L → wpOne P l.toArray Q n R is a w → wpG P md l.toArray Q n (is.length + g) listed a w
 | [],listed,a,w,inv,_,hL,h => by
  have hL' : listed = L:=hL
  subst hL'
  simpa using hR a w h inv
 | k :: r,listed,a,w,inv,hX,hL,h => by
  simp only [oneI,Bool.and_eq_true,beq_iff_eq] at hX
  obtain ⟨hr,hX'⟩:=hX
  rw [List.length_cons,show r.length + 1 + g = (r.length + g) + 1 by omega]
  refine ⟨fun h0 => (by rw [hr] at h0; cases h0),fun i hi W hW => ?_⟩
  have hik : i = k:=by rw [hr] at hi; simpa using hi
  subst hik
  refine wpOp_mono (fun a' W' hk => ⟨hk.1,S_one hRx hR r _ _ _ (inv.set hi) hX' hL hk.2⟩) (h W hW)
theorem wpMk_ext {w w' : World} {R R' : Act → Prop} (hE : Ext w w') (hR : ∀ a,R a → R' a) : ∀ {l : List Oper} {a : Act},wpMk P ops w R l a → wpMk P ops w' R' l a
 | [],_,hh => hR _ hh
 | _ :: _,_,⟨v,hy,hK⟩ => ⟨v,hy.of_same hE rfl rfl,wpMk_ext hE hR hK⟩
theorem wpOne_ext {n : Nat} {R : Act → World → Prop} {w w' : World} (hE : Ext w w') (hRx : ∀ a w w',R a w → Ext w w' → R a w') : ∀ {is : List Nat} {a : Act},wpOne P ops Q n R is a w → wpOne P ops Q n R is a w'
 | [],_,h => hRx _ _ _ h hE
 | _ :: _,_,h => fun W hW => h W (hE.trans hW)
theorem zcd {l : List Oper} {n : Nat} : ∀ {s : Sched} {a : Act} {w w' : World},wpSched P l Q n s a w → Ext w w' → wpSched P l Q n s a w'
 | [],_,_,_,h,hE => fun W hW => h W (hE.trans hW)
 | (true,_) :: _,_,_,_,h,hE => wpMk_ext hE (fun _ h => zcd h hE) h
 | (false,is) :: r,_,_,_,h,hE => wpOne_ext (R:=fun a' w' => wpSched P l Q n r a' w') (is:=is) hE (fun _ _ _ h k => zcd h k) h
theorem S_all {n : Nat} {l : List Oper} (hsel : Region.noSelect l.toArray = true) (hQ : ∀ (o : Oper) v c a w,Q (.panic c) (a.put o.dst v) w → Q (.panic c) a w) (hB : lateS md l.toArray n = true) :
  ∀ (s : Sched) (listed : Array Bool) (a : Act) (w : World),Closed md l.toArray listed → schedI md l.toArray n s listed = true → wpSched P l Q n s a w → wpG P md l.toArray Q n (lenI s) listed a w
 | [],listed,a,w,_,hX,h => ⟨by simpa [schedI] using hX,h⟩
 | (true,is) :: r,listed,a,w,inv,hX,h => by
  simp only [schedI,Bool.and_eq_true] at hX
  exact S_take (g:=lenI r) hsel hQ hB (R:=fun a' => wpSched P l Q n r a' w) (L:=markI is listed) (fun a' h' inv' => S_all hsel hQ hB r _ _ _ inv' hX.2 h') is listed a inv hX.1 rfl h
 | (false,is) :: r,listed,a,w,inv,hX,h => by
  simp only [schedI,Bool.and_eq_true] at hX
  exact S_one (g:=lenI r) (R:=fun a' w' => wpSched P l Q n r a' w') (L:=markI is listed) (fun _ _ _ h k => zcd h k) (fun a' w' h' inv' => S_all hsel hQ hB r _ _ _ inv' hX.2 h') is listed a w inv hX.1 rfl h
def schedB (l : List Oper) (n : Nat) (s : Sched) : Bool :=
 Region.noSelect l.toArray && lateS .any l.toArray n && (lenI s == l.length) && schedI .any l.toArray n s (Array.replicate l.length false)
theorem wp_sched {id : Nat} (n : Nat) (s : Sched) {a : Act} {w : World} {l : List Oper} (hm : P.follows .mixedOrders = true) (hB : schedB l n s = true)
  (h : ∀ Q',Hid (Q' = NoPanic Q) → wpSched P l Q' n s a w) : (Code.region id l.toArray true).wp P Q a w:=by
 simp only [schedB,Bool.and_eq_true,beq_iff_eq] at hB
 obtain ⟨⟨⟨hsel,hlate⟩,hlen⟩,hs⟩:=hB
 refine wp_region_noPanic ?_
 have inv0 : Closed .any l.toArray (Array.replicate l.length false) :=
  ⟨by simp,fun j oj _ hl => (by rw [getD_replicate_false] at hl; cases hl)⟩
 have H:=S_all (P:=P) (md:=.any) (Q:=NoPanic Q) hsel (fun _ _ _ _ _ h => h) hlate s _ a w inv0 hs (h _ (veil rfl))
 rw [hlen] at H
 refine wp_region_any hm (zbv (n:=n) _ _ _ _ ?_)
 have:=wpG.ext H (Ext.drew w)
 simpa using this
/-! ### how its parts are walked -/
theorem wpq_end {C : World → Prop} {a : Act} : wpQuiet P ops C (fun a' => a' = a) [] a:=rfl
theorem sched_row {l : List Oper} {n : Nat} {is : List Nat} {r : Sched} {a A : Act} {w : World} (os : List Oper) (ho : pickI l is = os) (hB : ownB a.tmps.size os = true)
  (h : ∀ D,Up w D → Nonempty (Gw D) → wpQuiet P l.toArray (fun W => ∃ x : Gw D,W = x.val) (fun a' => a' = A) os a) (h2 : wpSched P l Q n r A w) : wpSched P l Q n ((true,is) :: r) a w:=by
 subst ho
 exact mk_mono (fun a' e => by subst e; exact h2) (zcj hB fun D hD => h D hD hD.ne)
theorem sched_end {l : List Oper} {n : Nat} {a : Act} {w : World} {R : Exit → Act → World → Prop} (hQ : Hid (Q = NoPanic R)) (h : ∀ W,Ext w W → R .normal a W) : wpSched P l Q n [] a w:=fun W hW => by
 rw [hQ.out]
 exact h W hW
end
end Go.Proofs.YtbfkecfcolcclaaGreatDoor
namespace Go.Proofs.YtbfkecfcolcclaaGreatDoor
open Go.RowKit
open Go.Value renaming int → vI
open Go.IntKind renaming u64 → vU
open Go.Act renaming put → aP
open List renaming setIfInBounds_toArray → lA, set_cons_zero → lZ, set_cons_succ → lS
/-! ### in schedules -/
section
variable {Q : Exit → Act → World → Prop} {l : List Oper} {n k d : Nat} {r : Sched} {a : Act} {w : World}
end
theorem Fl.take {w : World} {A : Option Addr} {n c : Nat} {fs : List Fd} (h : Fl w (.slice A n c) fs) {m : Nat} (hm : m ≤ n) : Fl w (.slice A m c) (fs.take m):=by
 obtain ⟨hB,AL,c',he,hc,hx⟩:=h
 injection he with e1 e2 e3
 subst e1 e3
 have hl : (fs.take m).length = m:=by rw [List.length_take]; omega
 have hg : ∀ i,i < m → tgF (fs.take m) i = tgF fs i ∧ bsF (fs.take m) i = bsF fs i:=fun i hi => by
  unfold tgF bsF
  simp only [List.getD_eq_getElem?_getD,List.getElem?_take_of_lt hi,and_self]
 refine ⟨fun f hf => hB f (List.mem_of_mem_take hf),A,c,by rw [hl],by rw [hl]; omega,?_⟩
 rw [hl]
 by_cases h0 : m = 0
 ·
  exact .inl h0
 ·
  refine .inr ?_
  obtain ⟨b,o,e,hb,hcl⟩:=hx.resolve_left (by omega)
  refine ⟨b,o,e,hb,fun i hi => ?_⟩
  obtain ⟨g1,g2⟩:=hg i hi
  rw [g1,g2]
  exact hcl i (by omega)
end Go.Proofs.YtbfkecfcolcclaaGreatDoor
namespace Go.Proofs.YtbfkecfcolcclaaGreatDoor
structure Tk where
 s : Int
 p : Int
 z : Int
 f : Int
 k : Int
def Tk.list (t : Tk) : List Int:=[t.s,t.p,t.z,t.f,t.k]
def mayT (t : Tk) : Bool:=decide (1 ≤ t.s ∧ t.s ≤ 2147483647 ∧ 1 ≤ t.p ∧ t.p ≤ 16 ∧ 1 ≤ t.z ∧ t.z ≤ 255 ∧ 0 ≤ t.f ∧ t.f ≤ 1073741824 ∧ 1 ≤ t.k ∧ t.k ≤ 2147483647)
def twoOk (fs : List Fd) : Prop:=fs.length = 2 ∧ tgF fs 0 = 1 ∧ tgF fs 1 = 2 ∧ (bsF fs 1).length = 64
instance (fs : List Fd) : Decidable (twoOk fs):=by unfold twoOk; exact inferInstance
end Go.Proofs.YtbfkecfcolcclaaGreatDoor
namespace Go.Proofs.YtbfkecfcolcclaaGreatDoor
open Go.RowKit
open Go.Value renaming int → vI
open Go.IntKind renaming u64 → vU
open Go.Act renaming put → aP
open List renaming setIfInBounds_toArray → lA, set_cons_zero → lZ, set_cons_succ → lS
def Is (w : World) (v : Value) (l : List Int) : Prop:=∃ A c,v = .slice A l.length c ∧ l.length ≤ c ∧ (l.length = 0 ∨ ∃ b o,A = some ⟨b,o,none⟩ ∧ b < w.heap.size ∧ ∀ i,i < l.length → w.cell? ⟨b,o + i,none⟩ = some (.int .i64 (l.getD i 0)))
theorem Is.ext {w w' : World} {v : Value} {l : List Int} (h : Is w v l) (k : Ext w w') : Is w' v l:=by
 obtain ⟨A,c,e,hc,h⟩:=h
 exact ⟨A,c,e,hc,h.imp id fun ⟨b,o,e,hb,hx⟩ => ⟨b,o,e,Nat.lt_of_lt_of_le hb k.size,fun i hi => (k.cell hb).trans (hx i hi)⟩⟩
section
variable {Q : Exit → Act → World → Prop} {ops : Array Oper} {rest : List Oper} {a : Act} {w : World} {o : Oper}
end
end Go.Proofs.YtbfkecfcolcclaaGreatDoor
namespace Go.Proofs.YtbfkecfcolcclaaGreatDoor
open Go.RowKit
open Go.Value renaming int → vI
open Go.IntKind renaming u64 → vU
open Go.Act renaming put → aP
open List renaming setIfInBounds_toArray → lA, set_cons_zero → lZ, set_cons_succ → lS
def tkC (t : Tk) : Array Value:=#[.int .i64 t.s,.int .i64 t.p,.int .i64 t.z,.int .i64 t.f,.int .i64 t.k]
def tkV (t : Tk) : Value:=.agg (tkC t)
theorem iTk (t : Tk) : (Tryz.prog.info? 24).map (·.size) = some (tkC t).size:=by
 show _ = some 5
 kernel_rfl
theorem tkC_one (t : Tk) : (tkC t).all (·.oneCell') = true:=by simp [tkC,Value.oneCell']
theorem zbc {t : Tk} (h : ¬ (1 ≤ t.s ∧ t.s ≤ 2147483647 ∧ 1 ≤ t.p ∧ t.p ≤ 16 ∧ 1 ≤ t.z ∧ t.z ≤ 255 ∧ 0 ≤ t.f ∧ t.f ≤ 1073741824 ∧ 1 ≤ t.k ∧ t.k ≤ 2147483647)) : mayT t = false:=decide_eq_false h
theorem rmay9_calls (t : Tk) (w : World) : Calls Tryz.prog 21 #[tkV t] w fun e w' => e = .returned (.bool (mayT t)) ∧ Ext w w':=by
 obtain ⟨s,p,z,f,k⟩:=t
 unfold tkV tkC
 have hE:=Ext.alloc w (.cells #[.int .i64 s,.int .i64 p,.int .i64 z,.int .i64 f,.int .i64 k] 24)
 have HE:=veil hE
 clear hE
 by_cases g0 : (1 : Int) ≤ s
 ·
  have d0 : decide ((1 : Int) ≤ s) = true:=decide_eq_true g0
  by_cases g1 : s ≤ 2147483647
  ·
   have d1 : decide (s ≤ 2147483647) = true:=decide_eq_true g1
   by_cases g2 : (1 : Int) ≤ p
   ·
    have d2 : decide ((1 : Int) ≤ p) = true:=decide_eq_true g2
    by_cases g3 : p ≤ 16
    ·
     have d3 : decide (p ≤ 16) = true:=decide_eq_true g3
     by_cases g4 : (1 : Int) ≤ z
     ·
      have d4 : decide ((1 : Int) ≤ z) = true:=decide_eq_true g4
      by_cases g5 : z ≤ 255
      ·
       have d5 : decide (z ≤ 255) = true:=decide_eq_true g5
       by_cases g6 : (0 : Int) ≤ f
       ·
        have d6 : decide ((0 : Int) ≤ f) = true:=decide_eq_true g6
        by_cases g7 : f ≤ 1073741824
        ·
         have d7 : decide (f ≤ 1073741824) = true:=decide_eq_true g7
         by_cases g8 : (1 : Int) ≤ k
         ·
          have d8 : decide ((1 : Int) ≤ k) = true:=decide_eq_true g8
          by_cases g9 : k ≤ 2147483647
          ·
           have d9 : decide (k ≤ 2147483647) = true:=decide_eq_true g9
           have hm : mayT ⟨s,p,z,f,k⟩ = true:=decide_eq_true ⟨g0,g1,g2,g3,g4,g5,g6,g7,g8,g9⟩
           rw [hm]
           clear hm
           go_enter Tryz.func21,Tryz.ntmps21
           go_wp2
           go_ret
           exact ⟨rfl,HE.out⟩
          ·
           have d9 : decide (k ≤ 2147483647) = false:=decide_eq_false g9
           have hm : mayT ⟨s,p,z,f,k⟩ = false:=zbc fun h => by
            have:=h
            simp only at this
            omega
           rw [hm]
           clear hm
           go_enter Tryz.func21,Tryz.ntmps21
           go_wp2
           go_ret
           exact ⟨rfl,HE.out⟩
         ·
          have d8 : decide ((1 : Int) ≤ k) = false:=decide_eq_false g8
          have hm : mayT ⟨s,p,z,f,k⟩ = false:=zbc fun h => by
           have:=h
           simp only at this
           omega
          rw [hm]
          clear hm
          go_enter Tryz.func21,Tryz.ntmps21
          go_wp2
          go_ret
          exact ⟨rfl,HE.out⟩
        ·
         have d7 : decide (f ≤ 1073741824) = false:=decide_eq_false g7
         have hm : mayT ⟨s,p,z,f,k⟩ = false:=zbc fun h => by
          have:=h
          simp only at this
          omega
         rw [hm]
         clear hm
         go_enter Tryz.func21,Tryz.ntmps21
         go_wp2
         go_ret
         exact ⟨rfl,HE.out⟩
       ·
        have d6 : decide ((0 : Int) ≤ f) = false:=decide_eq_false g6
        have hm : mayT ⟨s,p,z,f,k⟩ = false:=zbc fun h => by
         have:=h
         simp only at this
         omega
        rw [hm]
        clear hm
        go_enter Tryz.func21,Tryz.ntmps21
        go_wp2
        go_ret
        exact ⟨rfl,HE.out⟩
      ·
       have d5 : decide (z ≤ 255) = false:=decide_eq_false g5
       have hm : mayT ⟨s,p,z,f,k⟩ = false:=zbc fun h => by
        have:=h
        simp only at this
        omega
       rw [hm]
       clear hm
       go_enter Tryz.func21,Tryz.ntmps21
       go_wp2
       go_ret
       exact ⟨rfl,HE.out⟩
     ·
      have d4 : decide ((1 : Int) ≤ z) = false:=decide_eq_false g4
      have hm : mayT ⟨s,p,z,f,k⟩ = false:=zbc fun h => by
       have:=h
       simp only at this
       omega
      rw [hm]
      clear hm
      go_enter Tryz.func21,Tryz.ntmps21
      go_wp2
      go_ret
      exact ⟨rfl,HE.out⟩
    ·
     have d3 : decide (p ≤ 16) = false:=decide_eq_false g3
     have hm : mayT ⟨s,p,z,f,k⟩ = false:=zbc fun h => by
      have:=h
      simp only at this
      omega
     rw [hm]
     clear hm
     go_enter Tryz.func21,Tryz.ntmps21
     go_wp2
     go_ret
     exact ⟨rfl,HE.out⟩
   ·
    have d2 : decide ((1 : Int) ≤ p) = false:=decide_eq_false g2
    have hm : mayT ⟨s,p,z,f,k⟩ = false:=zbc fun h => by
     have:=h
     simp only at this
     omega
    rw [hm]
    clear hm
    go_enter Tryz.func21,Tryz.ntmps21
    go_wp2
    go_ret
    exact ⟨rfl,HE.out⟩
  ·
   have d1 : decide (s ≤ 2147483647) = false:=decide_eq_false g1
   have hm : mayT ⟨s,p,z,f,k⟩ = false:=zbc fun h => by
    have:=h
    simp only at this
    omega
   rw [hm]
   clear hm
   go_enter Tryz.func21,Tryz.ntmps21
   go_wp2
   go_ret
   exact ⟨rfl,HE.out⟩
 ·
  have d0 : decide ((1 : Int) ≤ s) = false:=decide_eq_false g0
  have hm : mayT ⟨s,p,z,f,k⟩ = false:=zbc fun h => by
   have:=h
   simp only at this
   omega
  rw [hm]
  clear hm
  go_enter Tryz.func21,Tryz.ntmps21
  go_wp2
  go_ret
  exact ⟨rfl,HE.out⟩
end Go.Proofs.YtbfkecfcolcclaaGreatDoor
namespace Go.Proofs.YtbfkecfcolcclaaGreatDoor
open Go.RowKit
open Go.Value renaming int → vI
open Go.IntKind renaming u64 → vU
open Go.Act renaming put → aP
open List renaming setIfInBounds_toArray → lA, set_cons_zero → lZ, set_cons_succ → lS
def gc (r s : Nat) : Array Value:=#[vI vU (wd r 0),vI vU (wd r 1),vI vU (wd r 2),vI vU (wd r 3),vI vU (wd s 0),vI vU (wd s 1),vI vU (wd s 2),vI vU (wd s 3)]
theorem gc_one (r s : Nat) : (gc r s).all (·.oneCell') = true:=by simp [gc,Value.oneCell']
theorem iSg (r s : Nat) : (Tryz.prog.info? 69).map (·.size) = some (gc r s).size:=by kernel_rfl
section
variable (g : Nat) (W : World)
end
end Go.Proofs.YtbfkecfcolcclaaGreatDoor
namespace Go.Proofs.YtbfkecfcolcclaaGreatDoor
open Go.RowKit
open Go.Value renaming int → vI
open Go.IntKind renaming u64 → vU
open Go.Act renaming put → aP
open List renaming setIfInBounds_toArray → lA, set_cons_zero → lZ, set_cons_succ → lS
def Z8 : Array Value:=#[vI vU 0,vI vU 0,vI vU 0,vI vU 0,vI vU 0,vI vU 0,vI vU 0,vI vU 0]
theorem z8_gc : Z8 = gc 0 0:=by
 obtain ⟨h0,h1,h2,h3⟩:=wd_z
 unfold gc Z8
 rw [h0,h1,h2,h3]
theorem iZ8 : (Tryz.prog.info? 69).map (·.size) = some Z8.size:=by kernel_rfl
theorem z8_one : Z8.all (·.oneCell') = true:=by simp [Z8,Value.oneCell']
theorem Up.block {w : World} {D : World → Prop} (h : Up w D) {g : Nat} {o : Obj} (hb : w.heap[g]? = some o) (x : Gw D) : x.val.heap[g]? = some o:=(h.grown _ x.property).block hb
end Go.Proofs.YtbfkecfcolcclaaGreatDoor
namespace Go.Proofs.YtbfkecfcolcclaaGreatDoor
open Go.RowKit
open Go.Value renaming int → vI
open Go.IntKind renaming u64 → vU
open Go.Act renaming put → aP
open List renaming setIfInBounds_toArray → lA, set_cons_zero → lZ, set_cons_succ → lS
def TZ : Array Value:=#[.int .i64 0,.int .i64 0,.int .i64 0,.int .i64 0,.int .i64 0]
theorem iTZ : (Tryz.prog.info? 24).map (·.size) = some TZ.size:=by kernel_rfl
theorem tz_one : TZ.all (·.oneCell') = true:=by simp [TZ,Value.oneCell']
theorem results_two {P : Program} {fn : Func} {q p s : Tmp} {ty ty2 : TypeId} (h : fn.results = #[.cell q ty,.cell p ty2,.tmp s]) (tmps : Array Value) (w : World) (g g2 : Nat) (t t2 : TypeId) (cs cs2 : Array Value) (fr fr2 : Nat × Nat) (d d2 : TypeDesc)
  (hq : tmps.getD q undef = .pointer (some ⟨g,0,none⟩)) (hg : w.heap[g]? = some (.cells cs t fr)) (hu : P.underlying ty = some d) (hd : d.isRow = true) (hi : (P.info? ty).map (·.size) = some cs.size)
  (hp : tmps.getD p undef = .pointer (some ⟨g2,0,none⟩)) (hg2 : w.heap[g2]? = some (.cells cs2 t2 fr2)) (hu2 : P.underlying ty2 = some d2) (hd2 : d2.isRow = true) (hi2 : (P.info? ty2).map (·.size) = some cs2.size) :
  (results fn tmps).run P w = .ok (.tuple #[.agg cs,.agg cs2,tmps.getD s undef]) w:=by
 have hq' : tmps[q]?.getD undef = .pointer (some ⟨g,0,none⟩):=by simpa using hq
 have hp' : tmps[p]?.getD undef = .pointer (some ⟨g2,0,none⟩):=by simpa using hp
 have hl : (loadVar ty ⟨g,0,none⟩).run P w = .ok (.agg cs) w:=run_loadVar_mid w g 0 ty cs.toList d (fun j v hv => by rw [cell_of_row w g (0 + j) cs t fr hg,Nat.zero_add]; simpa using hv) hu hd (by simpa using hi)
 have hl2 : (loadVar ty2 ⟨g2,0,none⟩).run P w = .ok (.agg cs2) w:=run_loadVar_mid w g2 0 ty2 cs2.toList d2 (fun j v hv => by rw [cell_of_row w g2 (0 + j) cs2 t2 fr2 hg2,Nat.zero_add]; simpa using hv) hu2 hd2 (by simpa using hi2)
 simp [results,h,hq',hp',asAddr,hl,hl2]
theorem two_far {W : World} {g g' t : Nat} {cs : Array Value} (T : Array Value) (h : W.heap[g']? = some (.cells cs t (0,0))) (hg : g < g') : (W.setRow g T).heap[g']? = some (.cells cs t (0,0)):=(zdc W T (by omega)).trans h
theorem two_rows {w W : World} {g g' t t' : Nat} {T G T0 G0 : Array Value} (hE : Ext w W) (h : W.heap[g]? = some (.cells T0 t (0,0))) (h' : W.heap[g']? = some (.cells G0 t' (0,0))) (hg : w.heap.size ≤ g ∧ g < g') :
  Ext w ((W.setRow g T).setRow g' G) ∧ ((W.setRow g T).setRow g' G).heap[g]? = some (.cells T t (0,0)) ∧ ((W.setRow g T).setRow g' G).heap[g']? = some (.cells G t' (0,0)) :=
 ⟨zbb (zbb hE hg.1 T) (by omega) G,(zdc _ G (by omega)).trans (setRow_heap W g T0 T t (0,0) h),setRow_heap _ g' G0 G t' (0,0) (two_far T h' hg.2)⟩
/-! ### a region that draws its order,order by order -/
section
variable {P : Program} {ops : Array Oper} {Q : Exit → Act → World → Prop} {f j d : Nat} {listed : Array Bool} {a : Act} {w : World}
end
end Go.Proofs.YtbfkecfcolcclaaGreatDoor
namespace Go.Proofs.YtbfkecfcolcclaaGreatDoor
open Go.RowKit
open Go.Value renaming int → vI
open Go.IntKind renaming u64 → vU
open Go.Act renaming put → aP
open List renaming setIfInBounds_toArray → lA, set_cons_zero → lZ, set_cons_succ → lS
theorem zcf {P : Program} {fn : Func} {q s : Tmp} {ty : TypeId} (h : fn.results = #[.cell q ty,.tmp s]) (tmps : Array Value) (w : World) (g : Nat) (t : TypeId) (cs : Array Value) (fr : Nat × Nat) (d : TypeDesc)
  (hq : tmps.getD q undef = .pointer (some ⟨g,0,none⟩)) (hg : w.heap[g]? = some (.cells cs t fr)) (hu : P.underlying ty = some d) (hd : d.isRow = true) (hi : (P.info? ty).map (·.size) = some cs.size) :
  (results fn tmps).run P w = .ok (.tuple #[.agg cs,tmps.getD s undef]) w:=by
 have hq' : tmps[q]?.getD undef = .pointer (some ⟨g,0,none⟩):=by simpa using hq
 have hl : (loadVar ty ⟨g,0,none⟩).run P w = .ok (.agg cs) w:=run_loadVar_mid w g 0 ty cs.toList d (fun j v hv => by rw [cell_of_row w g (0 + j) cs t fr hg,Nat.zero_add]; simpa using hv) hu hd (by simpa using hi)
 simp [results,h,hq',asAddr,hl]
theorem zct (w1 : World) (o o2 : Obj) : ((w1.alloc o).alloc o2).heap[w1.heap.size]? = some o ∧ ((w1.alloc o).alloc o2).heap[w1.heap.size + 1]? = some o2:=by
 have h:=zag (w1.alloc o) o2
 rw [World.size_alloc] at h
 exact ⟨(Ext.alloc (w1.alloc o) o2).block (zag w1 o),h⟩
theorem two_ext (w1 : World) (o o2 : Obj) : Ext w1 ((w1.alloc o).alloc o2):=(Ext.alloc _ _).trans (Ext.alloc _ _)
end Go.Proofs.YtbfkecfcolcclaaGreatDoor
namespace Go.Proofs.YtbfkecfcolcclaaGreatDoor
abbrev Rv:=Int × Int
def rvS (l : List Rv) (i : Nat) : Int:=(l.getD i (0,0)).1
def rvF (l : List Rv) (i : Nat) : Int:=(l.getD i (0,0)).2
def okR (l : List Rv) (i : Nat) : Prop:=1 ≤ rvS l i ∧ rvS l i ≤ 2147483647 ∧ 0 ≤ rvF l i ∧ rvF l i ≤ 1073741824 ∧ (0 < i → rvS l (i - 1) < rvS l i)
instance (l : List Rv) (i : Nat) : Decidable (okR l i):=by unfold okR; exact inferInstance
def mayRs (l : List Rv) : Bool:=decide (l.length ≤ 200 ∧ ∀ i,i < l.length → okR l i)
/-! ### from when a serial is revoked -/
def look : List Rv → Int → Option Int
 | [],_ => none
 | x :: r,s => if x.1 = s then some x.2 else look r s
/-! ### one put in among others -/
def both : Option Int → Option Int → Option Int
 | some a,some b => some (if b < a then b else a)
 | some a,none => some a
 | none,some b => some b
 | none,none => none
end Go.Proofs.YtbfkecfcolcclaaGreatDoor
