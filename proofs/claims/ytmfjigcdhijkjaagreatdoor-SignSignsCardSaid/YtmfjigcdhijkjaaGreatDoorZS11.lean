/-
  Of FMath FBase Mul64 MulMath Half IsH M4 M5 NS1 NS2 Yif E2 Q11 NE NF NF0 NF1.
-/
import Derived.Test.YtmfjigcdhijkjaaGreatDoorRows
import Derived.WalkKit
import Derived.WalkSpells
import Derived.WalkLawsBesides
import Derived.Deep.LoopGhost
import Derived.Deep.RegionWith
import Derived.Deep.RegionHeld3
import Derived.Deep.QuietTactic
import Derived.BigQuiet
import Derived.Laws.CopyOwn
import Derived.Deep.CutBlock
import Derived.Deep.MidRow
import Derived.Lib.AppendZeros
import Derived.Test.YtmfjigcdhijkjaaGreatDoorZS1
import Derived.Test.YtmfjigcdhijkjaaGreatDoorZS6
import Derived.Test.YtmfjigcdhijkjaaGreatDoorZS4
import Derived.Test.YtmfjigcdhijkjaaGreatDoorZS5
set_option maxRecDepth 1000000
set_option maxHeartbeats 20000000
namespace Go.Proofs.YtmfjigcdhijkjaaGreatDoor
def top8 : Nat:=w64 ^ 8
theorem zif : top8 = top * top:=by unfold top8 top; rw [← Nat.pow_add]
theorem zie : w64 = 18446744073709551616:=rfl
theorem div_succ' (B n i : Nat) : n / B ^ (i + 1) = n / B ^ i / B:=by rw [Nat.pow_succ,Nat.div_div_eq_div_mul]
theorem setw {B : Nat} (hB : 0 < B) (Z k n v : Nat) (hk : k < n) (hZ : Z < B ^ n) (hv : v < B) :
  ∃ Z',Z' < B ^ n ∧ (∀ m,dg B Z' m = if m = k then v else dg B Z m) ∧ Z' + B ^ k * dg B Z k = Z + B ^ k * v:=by
 have hP : 0 < B ^ k:=Nat.pow_pos hB
 have e1 : B ^ k * (Z / B ^ k) + Z % B ^ k = Z:=Nat.div_add_mod _ _
 have e2 : B * (Z / B ^ k / B) + Z / B ^ k % B = Z / B ^ k:=Nat.div_add_mod _ _
 have hr:=Nat.mod_lt Z hP
 have hq : Z / B ^ k / B < B ^ (n - (k + 1)):=by
  rw [← div_succ',Nat.div_lt_iff_lt_mul (Nat.pow_pos hB),← Nat.pow_add,show n - (k + 1) + (k + 1) = n by omega]; exact hZ
 have hn : B ^ n = B ^ k * (B * B ^ (n - (k + 1))):=by
  rw [← Nat.mul_assoc,← Nat.pow_succ,← Nat.pow_add]; congr 1; omega
 have hd : dg B Z k = Z / B ^ k % B:=rfl
 have hdm : ∀ j,dg B Z (k + 1 + j) = Z / B ^ k / B / B ^ j % B:=by
  intro j; unfold dg; rw [Nat.pow_add,← Nat.div_div_eq_div_mul,div_succ']
 have hlo : ∀ j,j < k → dg B Z j = dg B (Z % B ^ k) j:=fun j hj => (zdj Z k j hj).symm
 rw [hd,hn]
 clear hd hn hZ
 generalize Z / B ^ k / B = q at *
 generalize Z / B ^ k % B = d at *
 generalize Z / B ^ k = a at *
 generalize Z % B ^ k = r at *
 have hz : r + B ^ k * (v + B * q) = r + B ^ k * v + B ^ k * (B * q):=by rw [Nat.mul_add,Nat.add_assoc]
 refine ⟨r + B ^ k * (v + B * q),?_,?_,?_⟩
 ·
  have : v + B * q + 1 ≤ B * B ^ (n - (k + 1)):=by
   have : B * (q + 1) ≤ B * B ^ (n - (k + 1)):=Nat.mul_le_mul_left _ hq
   rw [Nat.mul_add] at this; omega
  have:=Nat.mul_le_mul_left (B ^ k) this
  rw [Nat.mul_add] at this; omega
 ·
  have hdiv : (r + B ^ k * (v + B * q)) / B ^ k = v + B * q:=by
   rw [Nat.add_mul_div_left _ _ hP,Nat.div_eq_of_lt hr,Nat.zero_add]
  intro m
  by_cases h : m = k
  ·
   rw [if_pos h,h]
   unfold dg
   rw [hdiv,Nat.add_mul_mod_self_left,Nat.mod_eq_of_lt hv]
  ·
   rw [if_neg h]
   by_cases hlt : m < k
   ·
    rw [← zdj _ k m hlt,Nat.add_mul_mod_self_left,Nat.mod_eq_of_lt hr,hlo m hlt]
   ·
    obtain ⟨j,rfl⟩ : ∃ j,m = k + 1 + j:=⟨m - (k + 1),by omega⟩
    rw [hdm]
    unfold dg
    rw [Nat.pow_add,← Nat.div_div_eq_div_mul,div_succ',hdiv,Nat.add_mul_div_left _ _ hB,Nat.div_eq_of_lt hv,Nat.zero_add]
 ·
  rw [hz,← e1,← e2,Nat.mul_add]
  omega
theorem setwd (Z k : Nat) (v : Int) (hk : k < 8) (hZ : Z < top8) (h0 : 0 ≤ v) (h1 : v ≤ 18446744073709551615) :
  ∃ Z',Z' < top8 ∧ (∀ m,wd Z' m = if m = k then v else wd Z m) ∧ Z' + w64 ^ k * dg w64 Z k = Z + w64 ^ k * v.toNat:=by
 obtain ⟨Z',a,b,c⟩:=setw zbf Z k 8 v.toNat hk hZ (by unfold w64; omega)
 refine ⟨Z',a,fun m => ?_,c⟩
 unfold wd
 rw [b m]
 split
 ·
  omega
 ·
  rfl
theorem col_step {B Z Z' Z0 t m c c' x i j M : Nat} (hM : m = dg B M j) (e : Z + c * B ^ (i + j) = Z0 + t * (M % B ^ j) * B ^ i)
  (hx : x + B * c' = t * m + c + dg B Z (i + j)) (hZ : Z' + B ^ (i + j) * dg B Z (i + j) = Z + B ^ (i + j) * x) :
  Z' + c' * B ^ (i + (j + 1)) = Z0 + t * (M % B ^ (j + 1)) * B ^ i:=by
 rw [zdc,← hM,← Nat.add_assoc i j 1,Nat.pow_succ B (i + j)]
 have h1 : t * (M % B ^ j + B ^ j * m) * B ^ i = t * (M % B ^ j) * B ^ i + B ^ (i + j) * (t * m):=by
  rw [Nat.mul_add,Nat.add_mul,Nat.pow_add]
  congr 1
  rw [Nat.mul_left_comm t,Nat.mul_comm (B ^ i),Nat.mul_comm (B ^ j * B ^ i),Nat.mul_comm (B ^ j),Nat.mul_assoc]
 have h2:=congrArg (fun z => B ^ (i + j) * z) hx
 simp only [Nat.mul_add] at h2
 rw [h1]
 have h3 : c' * (B ^ (i + j) * B) = B ^ (i + j) * (B * c'):=by rw [Nat.mul_comm c',Nat.mul_assoc]
 rw [h3]
 rw [Nat.mul_comm c] at e
 generalize B ^ (i + j) * (B * c') = p1 at *
 generalize B ^ (i + j) * (t * m) = p2 at *
 generalize B ^ (i + j) * c = p3 at *
 generalize B ^ (i + j) * dg B Z (i + j) = p4 at *
 generalize B ^ (i + j) * x = p5 at *
 omega
theorem low_dvd {B Z : Nat} {k : Nat} (h : Z % B ^ k = 0) : Z = B ^ k * (Z / B ^ k):=by
 have:=Nat.div_add_mod Z (B ^ k); omega
theorem row_done {B X M Z Z1 Z2 T t c o o' x k : Nat} (hlow : Z % B ^ k = 0) (hT : T < B ^ k) (ht : t < B) (hM : M < B ^ 4) (e : Z + o * B ^ (k + 4) = X + T * M)
  (ht0 : (dg B Z k + t * dg B M 0) % B = 0) (h1 : Z1 + c * B ^ (k + 4) = Z + t * (M % B ^ 4) * B ^ k) (hx : x + B * o' = dg B Z1 (k + 4) + c + o)
  (h2 : Z2 + B ^ (k + 4) * dg B Z1 (k + 4) = Z1 + B ^ (k + 4) * x) :
  Z2 % B ^ (k + 1) = 0 ∧ T + B ^ k * t < B ^ (k + 1) ∧ Z2 + o' * B ^ (k + 1 + 4) = X + (T + B ^ k * t) * M:=by
 have hz:=low_dvd hlow
 rw [Nat.mod_eq_of_lt hM] at h1
 have hp5 : B ^ (k + 1 + 4) = B ^ (k + 4) * B:=by rw [← Nat.pow_succ,show k + 1 + 4 = k + 4 + 1 by omega]
 have hq : B ^ (k + 4) = B ^ (k + 1) * B ^ 3:=by rw [← Nat.pow_add,show k + 1 + 3 = k + 4 by omega]
 have f : Z2 + o' * B ^ (k + 1 + 4) = Z + t * M * B ^ k + o * B ^ (k + 4):=by
  have h3:=congrArg (fun z => B ^ (k + 4) * z) hx
  simp only [Nat.mul_add] at h3
  rw [hp5,Nat.mul_comm o',Nat.mul_assoc (B ^ (k + 4)),Nat.mul_comm o]
  rw [Nat.mul_comm c] at h1
  generalize B ^ (k + 4) * dg B Z1 (k + 4) = p1 at *
  generalize B ^ (k + 4) * x = p2 at *
  generalize B ^ (k + 4) * c = p3 at *
  generalize B ^ (k + 4) * o = p4 at *
  generalize B ^ (k + 4) * (B * o') = p5 at *
  omega
 refine ⟨?_,?_,?_⟩
 ·
  have g : (Z2 + o' * B ^ (k + 1 + 4)) % B ^ (k + 1) = Z2 % B ^ (k + 1):=by
   rw [hp5,hq,Nat.mul_comm o',Nat.mul_assoc,Nat.mul_assoc,Nat.add_mul_mod_self_left]
  rw [← g,f,hq,Nat.mul_comm o,Nat.mul_assoc (B ^ (k + 1)),Nat.add_mul_mod_self_left]
  have hd : (Z / B ^ k + t * M) % B = 0:=by
   have : dg B Z k = Z / B ^ k % B:=rfl
   rw [this] at ht0
   have h0 : dg B M 0 = M % B:=by unfold dg; rw [Nat.pow_zero,Nat.div_one]
   rw [h0,Nat.mod_add_mod,Nat.add_mod,Nat.mul_mod,Nat.mod_mod,← Nat.mul_mod,← Nat.add_mod] at ht0
   exact ht0
  rw [hz,Nat.mul_comm (t * M),← Nat.mul_add,Nat.pow_succ,Nat.mul_mod_mul_left,hd,Nat.mul_zero]
 ·
  rw [Nat.pow_succ]
  have : B ^ k * (t + 1) ≤ B ^ k * B:=Nat.mul_le_mul_left _ ht
  rw [Nat.mul_add] at this; omega
 ·
  rw [f,Nat.add_mul,Nat.mul_right_comm t M,Nat.mul_comm (B ^ k) t]
  generalize t * B ^ k * M = p3 at *
  generalize o * B ^ (k + 4) = p1 at *
  generalize T * M = p2 at *
  omega
theorem times_zero {d n m : Int} (h : (18446744073709551616 : Int) ∣ m * n - 1) :
  (d + (-d % 18446744073709551616 * n) % 18446744073709551616 * m) % 18446744073709551616 = 0:=by
 have e1:=Int.emod_add_mul_ediv (-d) 18446744073709551616
 have e2:=Int.emod_add_mul_ediv (-d % 18446744073709551616 * n) 18446744073709551616
 generalize -d % 18446744073709551616 * n / 18446744073709551616 = q2 at *
 generalize -d % 18446744073709551616 * n % 18446744073709551616 = t at *
 generalize -d / 18446744073709551616 = q1 at *
 generalize -d % 18446744073709551616 = s at *
 obtain ⟨c,hc⟩:=h
 apply Int.emod_eq_zero_of_dvd
 refine ⟨-d * c - q1 * n * m - q2 * m,?_⟩
 have et : t = s * n - 18446744073709551616 * q2:=by omega
 have es : s = -d - 18446744073709551616 * q1:=by omega
 have hmn : m * n = 18446744073709551616 * c + 1:=by omega
 rw [et,es]
 have : (-d - 18446744073709551616 * q1) * n * m = (-d - 18446744073709551616 * q1) * (m * n):=by rw [Int.mul_assoc,Int.mul_comm n]
 simp only [Int.sub_mul,Int.mul_sub,Int.neg_mul,Int.mul_assoc] at *
 rw [Int.mul_comm n m,hmn]
 simp only [Int.mul_add,Int.mul_one]
 have e3 : d * (18446744073709551616 * c) = 18446744073709551616 * (d * c):=by rw [Int.mul_left_comm]
 rw [e3]
 have e4 : q1 * (18446744073709551616 * c) = 18446744073709551616 * (q1 * c):=by rw [Int.mul_left_comm]
 rw [e4]
 omega
/-! ### Newton's steps -/
theorem newton {D E m x : Int} (h : D ∣ m * x - 1) (hE : E ∣ D * D) (hW : E ∣ 18446744073709551616) :
  E ∣ m * (x * ((2 - m * x % 18446744073709551616) % 18446744073709551616) % 18446744073709551616) - 1:=by
 obtain ⟨a,ha⟩:=h
 have e1:=Int.emod_add_mul_ediv (m * x) 18446744073709551616
 have e2:=Int.emod_add_mul_ediv (2 - m * x % 18446744073709551616) 18446744073709551616
 have e3:=Int.emod_add_mul_ediv (x * ((2 - m * x % 18446744073709551616) % 18446744073709551616)) 18446744073709551616
 generalize x * ((2 - m * x % 18446744073709551616) % 18446744073709551616) / 18446744073709551616 = q3 at *
 generalize x * ((2 - m * x % 18446744073709551616) % 18446744073709551616) % 18446744073709551616 = t3 at *
 generalize (2 - m * x % 18446744073709551616) / 18446744073709551616 = q2 at *
 generalize (2 - m * x % 18446744073709551616) % 18446744073709551616 = t2 at *
 generalize m * x / 18446744073709551616 = q1 at *
 generalize m * x % 18446744073709551616 = t1 at *
 -- m x = 1 + D a; t2 = 2 - m x + W (q1 - q2); t3 = x t2 - W q3
 have h3 : t3 = x * t2 - 18446744073709551616 * q3:=by omega
 have h2 : t2 = 2 - m * x + 18446744073709551616 * (q1 - q2):=by omega
 have hk : m * t3 - 1 = -(D * D) * (a * a) + 18446744073709551616 * (m * x * (q1 - q2) - m * q3):=by
  rw [h3,h2]
  have hx : m * x = 1 + D * a:=by omega
  rw [Int.mul_sub,← Int.mul_assoc,Int.mul_add,hx,Int.mul_left_comm m,Int.mul_left_comm (1 + D * a) 18446744073709551616]
  have : (1 + D * a) * (2 - (1 + D * a)) = 1 - D * D * (a * a):=by
   rw [show (2 : Int) - (1 + D * a) = 1 - D * a by omega,Int.mul_sub,Int.mul_one,Int.add_mul,Int.one_mul]
   have : D * a * (D * a) = D * D * (a * a):=by rw [Int.mul_assoc,Int.mul_left_comm a,Int.mul_assoc]
   omega
  rw [this,Int.neg_mul,Int.mul_sub]
  omega
 rw [hk]
 exact Int.dvd_add (Int.dvd_trans (Int.dvd_neg.2 hE) (Int.dvd_mul_right _ _)) (Int.dvd_trans hW (Int.dvd_mul_right _ _))
def dv (k : Nat) : Int:=match k with | 0 => 8 | 1 => 64 | 2 => 4096 | 3 => 16777216 | 4 => 281474976710656 | _ => 18446744073709551616
theorem dv_start {m : Int} (h : m % 2 = 1) : dv 0 ∣ m * m - 1:=by
 show (8 : Int) ∣ m * m - 1
 obtain ⟨a,b,ha,hb⟩ : ∃ a b : Int,m = 8 * a + b ∧ (b = 1 ∨ b = 3 ∨ b = 5 ∨ b = 7):=⟨m / 8,m % 8,by omega,by omega⟩
 have : m * m = 8 * (a * (8 * a) + 2 * (a * b)) + b * b:=by
  rw [ha,Int.add_mul,Int.mul_add,Int.mul_add,Int.mul_assoc,Int.mul_assoc,Int.mul_comm b,Int.mul_assoc 8 a b]
  omega
 rw [this]
 rcases hb with rfl | rfl | rfl | rfl <;> omega
theorem dv_step {m x : Int} {k : Nat} (hk : k < 5) (h : dv k ∣ m * x - 1) :
  dv (k + 1) ∣ m * (x * ((2 - m * x % 18446744073709551616) % 18446744073709551616) % 18446744073709551616) - 1:=by
 refine newton h ?_ ?_
 ·
  match k,hk with
  | 0,_ => decide
  | 1,_ => decide
  | 2,_ => decide
  | 3,_ => decide
  | 4,_ => decide
 ·
  match k,hk with
  | 0,_ => decide
  | 1,_ => decide
  | 2,_ => decide
  | 3,_ => decide
  | 4,_ => decide
/-! ### modulo an odd number,2^256 can be taken away -/
theorem top_twoF : top = 2 ^ 256:=by decide
theorem cop_top {M : Nat} (h : M % 2 = 1) : Nat.Coprime top M:=by
 rw [top_twoF]
 apply Nat.Coprime.pow_left
 unfold Nat.Coprime
 rw [Nat.gcd_rec,h]; rfl
theorem cut_top {M A B : Nat} (hM : M % 2 = 1) (h : A * top % M = B * top % M) : A % M = B % M:=by
 have hc : Nat.Coprime M top:=(cop_top hM).symm
 have key : ∀ {a b : Nat},a ≤ b → a * top % M = b * top % M → a % M = b % M:=by
  intro a b hab h
  have h1 : M ∣ (b - a) * top:=by
   rw [Nat.sub_mul]
   exact Nat.dvd_of_mod_eq_zero (Nat.sub_mod_eq_zero_of_mod_eq h.symm)
  have h2 : M ∣ b - a:=Nat.Coprime.dvd_of_dvd_mul_right hc h1
  obtain ⟨c,hc2⟩:=h2
  rw [show b = a + M * c by omega,Nat.add_mul_mod_self_left]
 rcases Nat.le_total A B with hab | hab
 ·
  exact key hab h
 ·
  exact (key hab h.symm).symm
theorem shr_sum {X M Z T o : Nat} (hX : X < top8) (hT : T < top) (hM0 : 0 < M) (hlow : Z % top = 0) (e : Z + o * top8 = X + T * M) :
  (Z / top + o * top) * top = X + T * M ∧ Z / top + o * top < top + M ∧ (X < M * top → Z / top + o * top < 2 * M):=by
 have hp:=zbu
 have hz : top * (Z / top) + Z % top = Z:=Nat.div_add_mod _ _
 rw [zif] at *
 have e2 : (Z / top + o * top) * top = X + T * M:=by
  rw [Nat.add_mul,Nat.mul_assoc,Nat.mul_comm (Z / top)]; omega
 have hTM : T * M < top * M:=Nat.mul_lt_mul_of_pos_right hT hM0
 refine ⟨e2,?_,fun h => ?_⟩
 ·
  apply Nat.lt_of_mul_lt_mul_right (a:=top)
  rw [e2,Nat.add_mul,Nat.mul_comm M]; omega
 ·
  apply Nat.lt_of_mul_lt_mul_right (a:=top)
  rw [e2,Nat.mul_assoc 2,Nat.mul_comm M] at *
  omega
end Go.Proofs.YtmfjigcdhijkjaaGreatDoor
namespace Go.Proofs.YtmfjigcdhijkjaaGreatDoor
open Go.RowKit
open Go.Value renaming int → vI
open Go.IntKind renaming u64 → vU
open Go.Act renaming put → aP
open List renaming setIfInBounds_toArray → lA, set_cons_zero → lZ, set_cons_succ → lS
def fdf (M : Nat) (N : Int) (Q : Nat) : Nat → Value:=fun j => if j < 4 then .int .u64 (wd M j) else if j = 4 then .int .u64 N else .int .u64 (wd Q (j - 5))
def Fb (w : World) (b M : Nat) (N : Int) (Q : Nat) : Prop:=w.rowIs b 107 9 (fdf M N Q)
structure Fok (M : Nat) (N : Int) (Q : Nat) : Prop where
 m2 : 2 < M
 odd : M % 2 = 1
 mt : M < top
 n0 : 0 ≤ N
 n1 : N ≤ 18446744073709551615
 inv : (18446744073709551616 : Int) ∣ wd M 0 * N - 1
 q : Q = top8 % M
theorem Fok.qm {M : Nat} {N : Int} {Q : Nat} (h : Fok M N Q) : Q < M:=by rw [h.q]; exact Nat.mod_lt _ (by have:=h.m2; omega)
section
variable {w w' : World} {b M Q B : Nat} {N : Int}
theorem Fb.lt (h : Fb w b M N Q) : b < w.heap.size:=World.rowIs.lt h
theorem Fb.below (h : Fb w b M N Q) (hb : Below B w w') (hlt : b < B) : Fb w' b M N Q:=zab h hb hlt
theorem Fb.call (h : Fb w b M N Q) (hb : Below w.heap.size w w') : Fb w' b M N Q:=zab h hb h.lt
theorem Fb.drew (h : Fb w b M N Q) : Fb w.drew b M N Q:=h
theorem Fb.alloc (h : Fb w b M N Q) (o : Obj) : Fb (w.alloc o) b M N Q:=World.rowIs.alloc h o
theorem Fb.far {b' i : Nat} (h : Fb w b M N Q) (hne : b ≠ b') (v : Value) : Fb (w.setCell ⟨b',i,none⟩ v) b M N Q:=zay h hne v
theorem Fb.mod (h : Fb w b M N Q) : w.cell? ⟨b,0,none⟩ = some (vI vU (wd M 0)) ∧ w.cell? ⟨b,1,none⟩ = some (vI vU (wd M 1)) ∧ w.cell? ⟨b,2,none⟩ = some (vI vU (wd M 2)) ∧ w.cell? ⟨b,3,none⟩ = some (vI vU (wd M 3)) :=
 ⟨World.rowIs.cell h (by omega),World.rowIs.cell h (by omega),World.rowIs.cell h (by omega),World.rowIs.cell h (by omega)⟩
theorem Fb.inv (h : Fb w b M N Q) : w.cell? ⟨b,4,none⟩ = some (vI vU N):=World.rowIs.cell h (by omega)
theorem Fb.sq (h : Fb w b M N Q) : w.cell? ⟨b,5,none⟩ = some (vI vU (wd Q 0)) ∧ w.cell? ⟨b,6,none⟩ = some (vI vU (wd Q 1)) ∧ w.cell? ⟨b,7,none⟩ = some (vI vU (wd Q 2)) ∧ w.cell? ⟨b,8,none⟩ = some (vI vU (wd Q 3)) :=
 ⟨World.rowIs.cell h (by omega),World.rowIs.cell h (by omega),World.rowIs.cell h (by omega),World.rowIs.cell h (by omega)⟩
end
theorem wide_num (X : Nat) (h : X < top) : wd X 4 = 0 ∧ wd X 5 = 0 ∧ wd X 6 = 0 ∧ wd X 7 = 0:=by
 have e : ∀ i,4 ≤ i → wd X i = 0:=by
  intro i hi
  unfold wd dg
  rw [Nat.div_eq_of_lt (Nat.lt_of_lt_of_le h (Nat.pow_le_pow_right zbf hi))]; rfl
 exact ⟨e 4 (by omega),e 5 (by omega),e 6 (by omega),e 7 (by omega)⟩
theorem wide_calls (X : Nat) (hX : X < top) (w : World) :
  Calls Tryz.prog 126 #[.agg #[vI vU (wd X 0),vI vU (wd X 1),vI vU (wd X 2),vI vU (wd X 3)]] w fun e w' => e = .returned (.agg #[vI vU (wd X 0),vI vU (wd X 1),vI vU (wd X 2),vI vU (wd X 3),vI vU (wd X 4),vI vU (wd X 5),vI vU (wd X 6),vI vU (wd X 7)]) ∧ Below w.heap.size w w':=by
 obtain ⟨e4,e5,e6,e7⟩:=wide_num X hX
 rw [e4,e5,e6,e7]
 have hA0 : ((w.alloc (.cells #[vI vU (wd X 0),vI vU (wd X 1),vI vU (wd X 2),vI vU (wd X 3)] 24)).alloc (.cells #[vI vU 0,vI vU 0,vI vU 0,vI vU 0,vI vU 0,vI vU 0,vI vU 0,vI vU 0] 103)).rowIs w.heap.size 24 4 (fun j => .int .u64 (wd X j)):=(zag (n:=4) (by simp) rfl (arr4 fun j => .int .u64 (wd X j))).alloc _
 have hR0 : ((w.alloc (.cells #[vI vU (wd X 0),vI vU (wd X 1),vI vU (wd X 2),vI vU (wd X 3)] 24)).alloc (.cells #[vI vU 0,vI vU 0,vI vU 0,vI vU 0,vI vU 0,vI vU 0,vI vU 0,vI vU 0] 103)).rowIs (w.heap.size + 1) 103 8 (fun _ => .int .u64 0):=zag (n:=8) (by simp) rfl (arr8 fun _ => .int .u64 0)
 obtain ⟨c0,c1,c2,c3⟩:=zae hA0
 obtain ⟨f0,f1,f2,f3,f4,f5,f6,f7⟩:=row_f8 hR0
 obtain ⟨d0,d1,d2,d3,d4,d5,d6,d7⟩:=row_c8 hR0
 clear e4 e5 e6 e7
 go_enter Tryz.func126,Tryz.ntmps126
 go_wp2
 exact bodyPost_ret (results_cell_row rfl _ _ (w.heap.size + 1) 103 #[vI vU (wd X 0),vI vU (wd X 1),vI vU (wd X 2),vI vU (wd X 3),vI vU 0,vI vU 0,vI vU 0,vI vU 0] (0,0) _ rfl (blk8 (zag (n:=8) (f:=fun j => if j < 4 then Value.int .u64 (wd X j) else .int .u64 0) (by simp) rfl (arr8 fun j => if j < 4 then Value.int .u64 (wd X j) else .int .u64 0))) Tryz.underlying103 rfl (by kernel_rfl)) rfl ⟨rfl,((Below.refl _ _).alloc (by simp) _).alloc (by simp) _⟩
theorem inverse_calls (m : Int) (h0 : 0 ≤ m) (h1 : m ≤ 18446744073709551615) (hodd : m % 2 = 1) (w : World) :
  Calls Tryz.prog 107 #[vI vU m] w fun e w' => ∃ n : Int,0 ≤ n ∧ n ≤ 18446744073709551615 ∧ (18446744073709551616 : Int) ∣ m * n - 1 ∧ e = .returned (.int .u64 n) ∧ w' = w:=by
 have hS:=veil (dv_start hodd)
 clear hodd
 go_enter Tryz.func107,Tryz.ntmps107
 go_wp2
 go_loopw [3,5] (fun x i wr => ∃ (k : Nat) (n : Int),k ≤ 5 ∧ i = .int .i64 (k : Int) ∧ x = .int .u64 n ∧ 0 ≤ n ∧ n ≤ 18446744073709551615 ∧ Hid (dv k ∣ m * n - 1) ∧ wr = w)
  (fun _ i _ => 5 - (intOf i).toNat)
 case atStart => exact ⟨0,m,by omega,rfl,rfl,h0,h1,hS,rfl⟩
 case round =>
  obtain ⟨k,n,hk,rfl,rfl,n0,n1,hD,rfl⟩:=hrel
  by_cases hlt : k < 5
  ·
   have hn:=veil (dv_step hlt hD.out)
   obtain ⟨y,hy⟩ : ∃ y,y = n * ((2 - m * n % 18446744073709551616) % 18446744073709551616) % 18446744073709551616:=⟨_,rfl⟩
   rw [← hy] at hn
   have y0 : 0 ≤ y:=by omega
   have y1 : y ≤ 18446744073709551615:=by omega
   have hY:=veil hy
   clear hy
   go_wp2
   go_roundw
   case rel => exact ⟨k + 1,y,by omega,by go_num,by simp only [IntKind.wrap_u64]; rw [hY.out],y0,y1,hn,trivial⟩
   case measure => simp [intOf]; omega
  ·
   obtain rfl : k = 5:=by omega
   go_wp2
   go_ret
   exact ⟨n,n0,n1,hD.out,rfl,rfl⟩
theorem ret_u2 {a b c d : Int} (h : a = b) (h2 : c = d) : Ending.returned (.tuple #[vI vU a,vI vU c]) = .returned (.tuple #[vI vU b,vI vU d]):=by rw [h,h2]
theorem mul64 (x y : Int) (hx : 0 ≤ x) (hx2 : x ≤ 18446744073709551615) (hy : 0 ≤ y) (hy2 : y ≤ 18446744073709551615) (w : World) :
  Calls Tryz.prog 125 #[vI vU x,vI vU y] w fun e w' => e = .returned (.tuple #[vI vU (x * y / 18446744073709551616),vI vU (x * y % 18446744073709551616)]) ∧ w' = w:=by
 have key:=mul64_arith x y hx (by omega) hy (by omega)
 have m1:=and_low32 x hx (by omega)
 have m2:=and_low32 y hy (by omega)
 have K:=veil key
 have M1:=veil m1
 have M2:=veil m2
 clear key m1 m2
 go_enter Tryz.func125,Tryz.ntmps125
 go_wp2
 go_ret2
 refine ⟨ret_u2 ?_ ?_,rfl⟩
 ·
  simp only [M1.out,M2.out,IntKind.wrap_u64]
  rw [and_low32 _ (by omega) (by omega)]
  exact K.out
 ·
  exact IntKind.wrap_u64 _
theorem ma_bound {x y : Int} (hx : 0 ≤ x) (hx2 : x ≤ 18446744073709551615) (hy : 0 ≤ y) (hy2 : y ≤ 18446744073709551615) : 0 ≤ x * y ∧ x * y ≤ 340282366920938463426481119284349108225:=by
 refine ⟨Int.mul_nonneg hx hy,?_⟩
 have:=Int.mul_le_mul hx2 hy2 hy (by omega : (0 : Int) ≤ 18446744073709551615)
 omega
theorem mulAdd_calls (x y u v : Int) (hx : 0 ≤ x) (hx2 : x ≤ 18446744073709551615) (hy : 0 ≤ y) (hy2 : y ≤ 18446744073709551615) (hu : 0 ≤ u) (hu2 : u ≤ 18446744073709551615) (hv : 0 ≤ v) (hv2 : v ≤ 18446744073709551615) (w : World) :
  Calls Tryz.prog 112 #[vI vU x,vI vU y,vI vU u,vI vU v] w fun e w' => e = .returned (.tuple #[vI vU ((x * y + u + v) % 18446744073709551616),vI vU ((x * y + u + v) / 18446744073709551616)]) ∧ w' = w:=by
 obtain ⟨p0,p1⟩:=ma_bound hx hx2 hy hy2
 obtain ⟨P,hP⟩ : ∃ P,P = x * y:=⟨_,rfl⟩
 rw [← hP] at p0 p1 ⊢
 obtain ⟨L,hL⟩ : ∃ L,L = P % 18446744073709551616:=⟨_,rfl⟩
 obtain ⟨Hh,hH⟩ : ∃ Hh,Hh = P / 18446744073709551616:=⟨_,rfl⟩
 obtain ⟨L1,hL1⟩ : ∃ L1,L1 = (L + u + 0) % 18446744073709551616:=⟨_,rfl⟩
 obtain ⟨c1,hc1⟩ : ∃ c1,c1 = (L + u + 0) / 18446744073709551616:=⟨_,rfl⟩
 obtain ⟨L2,hL2⟩ : ∃ L2,L2 = (L1 + v + 0) % 18446744073709551616:=⟨_,rfl⟩
 obtain ⟨c2,hc2⟩ : ∃ c2,c2 = (L1 + v + 0) / 18446744073709551616:=⟨_,rfl⟩
 have h29a:=fun W => add64 L u 0 (by omega) hu (by omega) (by omega) W
 have h29b:=fun W => add64 L1 v 0 (by omega) hv (by omega) (by omega) W
 rw [← hL1,← hc1] at h29a
 rw [← hL2,← hc2] at h29b
 have b1 : 0 ≤ Hh:=by omega
 have b2 : 0 ≤ c1:=by omega
 have b3 : 0 ≤ c2:=by omega
 have b4 : Hh + c1 ≤ 18446744073709551615:=by omega
 have b5 : Hh + c1 + c2 ≤ 18446744073709551615:=by omega
 have e1 : (P + u + v) % 18446744073709551616 = L2:=by omega
 have e2 : (P + u + v) / 18446744073709551616 = Hh + c1 + c2:=by omega
 have hM:=fun W => mul64 x y hx hx2 hy hy2 W
 rw [← hP,← hL,← hH] at hM
 have HM:=veil hM
 have E:=veil (And.intro e1 e2)
 clear hM e1 e2 hP hL hH hL1 hc1 hL2 hc2 p0 p1 hx hx2 hy hy2 hu hu2 hv hv2
 go_enter Tryz.func112,Tryz.ntmps112
 go_wp2_with (go_at_call 125; refine (HM.out _).mono ?_; rintro e w' ⟨rfl,rfl⟩)
 go_ret2
 rw [E.out.1,E.out.2]
 exact ⟨rfl,rfl⟩
end Go.Proofs.YtmfjigcdhijkjaaGreatDoor
namespace Go.Proofs.YtmfjigcdhijkjaaGreatDoor
def PP (B X Y i : Nat) : Nat:=X % B ^ i * Y
def TT (B X Y i j : Nat) : Nat:=PP B X Y i % B ^ (i + j) + dg B X i * (B ^ i * (Y % B ^ j))
def CC (B X Y i j : Nat) : Nat:=TT B X Y i j / B ^ (i + j)
def UU (B X Y i j m : Nat) : Nat:=if m < i + j then dg B (TT B X Y i j) m else dg B (PP B X Y i) m
theorem UU_start {B : Nat} (X Y i m : Nat) : UU B X Y i 0 m = dg B (PP B X Y i) m:=by
 unfold UU
 split
 ·
  rename_i h
  unfold TT
  simp only [Nat.pow_zero,Nat.mod_one,Nat.mul_zero,Nat.add_zero] at *
  exact zdj _ i m h
 ·
  rfl
theorem CC_start {B : Nat} (hB : 0 < B) (X Y i : Nat) : CC B X Y i 0 = 0:=by
 unfold CC TT
 simp only [Nat.pow_zero,Nat.mod_one,Nat.mul_zero,Nat.add_zero]
 exact Nat.div_eq_of_lt (Nat.mod_lt _ (Nat.pow_pos hB))
theorem TT_lt {B : Nat} (hB : 0 < B) (X Y i j : Nat) : TT B X Y i j < B ^ (i + j) * B:=by
 have hQ : 0 < B ^ (i + j):=Nat.pow_pos hB
 have h1:=Nat.mod_lt (PP B X Y i) hQ
 have h2 : B ^ i * (Y % B ^ j) ≤ B ^ (i + j):=by
  rw [Nat.pow_add]
  exact Nat.mul_le_mul_left _ (Nat.le_of_lt (Nat.mod_lt _ (Nat.pow_pos hB)))
 have h3 : dg B X i * (B ^ i * (Y % B ^ j)) ≤ (B - 1) * B ^ (i + j):=Nat.mul_le_mul (by have:=dg_lt hB X i; omega) h2
 unfold TT
 have h4 : B ^ (i + j) * B = B ^ (i + j) + (B - 1) * B ^ (i + j):=by
  obtain ⟨b,rfl⟩ : ∃ b,B = b + 1:=⟨B - 1,by omega⟩
  rw [Nat.add_sub_cancel,Nat.mul_add,Nat.mul_one,Nat.mul_comm]
  omega
 omega
theorem CC_lt {B : Nat} (hB : 0 < B) (X Y i j : Nat) : CC B X Y i j < B:=by
 unfold CC
 rw [Nat.div_lt_iff_lt_mul (Nat.pow_pos hB),Nat.mul_comm]
 exact TT_lt hB X Y i j
theorem UU_lt {B : Nat} (hB : 0 < B) (X Y i j m : Nat) : UU B X Y i j m < B:=by
 unfold UU
 split <;> exact dg_lt hB _ _
theorem TT_step {B : Nat} (X Y i j : Nat) :
  TT B X Y i (j + 1) = TT B X Y i j % B ^ (i + j) + B ^ (i + j) * (dg B X i * dg B Y j + dg B (PP B X Y i) (i + j) + CC B X Y i j):=by
 have h1 : TT B X Y i (j + 1) = TT B X Y i j + B ^ (i + j) * (dg B (PP B X Y i) (i + j) + dg B X i * dg B Y j):=by
  unfold TT
  rw [show i + (j + 1) = (i + j) + 1 by omega,zdc B (PP B X Y i) (i + j),zdc B Y j,Nat.mul_add (B ^ i),← Nat.mul_assoc (B ^ i),← Nat.pow_add,Nat.mul_add (dg B X i),Nat.mul_add (B ^ (i + j)),
   show dg B X i * (B ^ (i + j) * dg B Y j) = B ^ (i + j) * (dg B X i * dg B Y j) by rw [Nat.mul_left_comm]]
  omega
 have h2 : B ^ (i + j) * CC B X Y i j + TT B X Y i j % B ^ (i + j) = TT B X Y i j:=Nat.div_add_mod _ _
 rw [h1,Nat.mul_add,Nat.mul_add,Nat.mul_add]
 omega
theorem UU_step {B : Nat} (hB : 0 < B) (X Y i j : Nat) : UU B X Y i (j + 1) (i + j) = (dg B X i * dg B Y j + UU B X Y i j (i + j) + CC B X Y i j) % B:=by
 have hu : UU B X Y i j (i + j) = dg B (PP B X Y i) (i + j):=by unfold UU; rw [if_neg (by omega)]
 rw [hu]
 unfold UU
 rw [if_pos (by omega),dg,TT_step,Nat.add_mul_div_left _ _ (Nat.pow_pos hB),Nat.div_eq_of_lt (Nat.mod_lt _ (Nat.pow_pos hB)),Nat.zero_add]
theorem CC_step {B : Nat} (hB : 0 < B) (X Y i j : Nat) : CC B X Y i (j + 1) = (dg B X i * dg B Y j + UU B X Y i j (i + j) + CC B X Y i j) / B:=by
 have hu : UU B X Y i j (i + j) = dg B (PP B X Y i) (i + j):=by unfold UU; rw [if_neg (by omega)]
 rw [hu]
 show TT B X Y i (j + 1) / B ^ (i + (j + 1)) = _
 rw [show i + (j + 1) = (i + j) + 1 by omega,Nat.pow_succ,← Nat.div_div_eq_div_mul,TT_step,Nat.add_mul_div_left _ _ (Nat.pow_pos hB),Nat.div_eq_of_lt (Nat.mod_lt _ (Nat.pow_pos hB)),Nat.zero_add]
theorem UU_other {B : Nat} (X Y i j m : Nat) (hm : m ≠ i + j) : UU B X Y i (j + 1) m = UU B X Y i j m:=by
 unfold UU
 by_cases h : m < i + j
 ·
  rw [if_pos (by omega),if_pos h,← zdj _ (i + j) m h,TT_step,Nat.add_mul_mod_self_left,Nat.mod_mod,zdj _ (i + j) m h]
 ·
  rw [if_neg (by omega),if_neg h]
theorem PP_lt {B : Nat} (hB : 0 < B) (X Y i n : Nat) (hY : Y < B ^ n) : PP B X Y i < B ^ (i + n):=by
 have h1 : X % B ^ i < B ^ i:=Nat.mod_lt _ (Nat.pow_pos hB)
 unfold PP
 rw [Nat.pow_add]
 exact Nat.mul_lt_mul_of_lt_of_le h1 (Nat.le_of_lt hY) (by omega)
theorem PP_step {B : Nat} (hB : 0 < B) (X Y i n : Nat) (hY : Y < B ^ n) : PP B X Y (i + 1) = TT B X Y i n:=by
 unfold TT
 rw [Nat.mod_eq_of_lt (PP_lt hB X Y i n hY),Nat.mod_eq_of_lt hY]
 unfold PP
 rw [zdc,Nat.add_mul,Nat.mul_comm (B ^ i) (dg B X i),Nat.mul_assoc]
theorem PP_row {B : Nat} (hB : 0 < B) (X Y i n m : Nat) (hY : Y < B ^ n) : dg B (PP B X Y (i + 1)) m = if m = i + n then CC B X Y i n else UU B X Y i n m:=by
 rw [PP_step hB X Y i n hY]
 by_cases h : m = i + n
 ·
  subst h
  rw [if_pos rfl]
  show CC B X Y i n % B = _
  exact Nat.mod_eq_of_lt (CC_lt hB X Y i n)
 ·
  rw [if_neg h]
  unfold UU
  by_cases h2 : m < i + n
  ·
   rw [if_pos h2]
  ·
   rw [if_neg h2]
   have hle : B ^ (i + n) * B ≤ B ^ m:=by rw [← Nat.pow_succ]; exact Nat.pow_le_pow_right hB (by omega)
   have h3:=TT_lt hB X Y i n
   have h4:=PP_lt hB X Y i n hY
   have h5 : B ^ (i + n) ≤ B ^ (i + n) * B:=Nat.le_mul_of_pos_right _ hB
   unfold dg
   rw [Nat.div_eq_of_lt (by omega),Nat.div_eq_of_lt (by omega)]
theorem PP_zero (B X Y : Nat) : PP B X Y 0 = 0:=by simp [PP,Nat.mod_one]
theorem PP_end {B : Nat} (X Y n : Nat) (hX : X < B ^ n) : PP B X Y n = X * Y:=by unfold PP; rw [Nat.mod_eq_of_lt hX]
theorem dg_zero (B i : Nat) : dg B 0 i = 0:=by simp [dg]
end Go.Proofs.YtmfjigcdhijkjaaGreatDoor
namespace Go.Proofs.YtmfjigcdhijkjaaGreatDoor
open Go.RowKit
open Go.Value renaming int → vI
open Go.IntKind renaming u64 → vU
open Go.Act renaming put → aP
open List renaming setIfInBounds_toArray → lA, set_cons_zero → lZ, set_cons_succ → lS
theorem half_div (X P : Nat) : X / 2 / P = X / P / 2:=by rw [Nat.div_div_eq_div_mul,Nat.div_div_eq_div_mul,Nat.mul_comm]
theorem dg_next (B X i : Nat) : dg B X (i + 1) = X / B ^ i / B % B:=by rw [dg,Nat.pow_succ,Nat.div_div_eq_div_mul]
theorem half_word (X m : Nat) : bits .or .u64 (wd X m / 2) (IntKind.u64.wrap (wd X (m + 1) * 9223372036854775808)) = wd (X / 2) m:=by
 unfold wd
 rw [dg_next,IntKind.wrap_u64]
 show _ = ((X / 2 / w64 ^ m % w64 : Nat) : Int)
 rw [half_div]
 unfold dg
 generalize X / w64 ^ m = q
 unfold w64
 rw [show ((q % 18446744073709551616 : Nat) : Int) / 2 = ((q % 18446744073709551616 / 2 : Nat) : Int) by omega,
  show ((q / 18446744073709551616 % 18446744073709551616 : Nat) : Int) * 9223372036854775808 % 18446744073709551616 = ((q / 18446744073709551616 % 2 * 9223372036854775808 : Nat) : Int) by omega]
 rw [u64_or_nat _ _ (by omega) (by omega),Nat.or_comm,nat_join 63 _ _ (by omega) (by omega)]
 omega
theorem wd_top {X : Nat} (hX : X < top) : wd X 4 = 0:=by
 unfold wd dg
 unfold top at hX
 rw [Nat.div_eq_of_lt hX]; rfl
theorem row_down {X m : Nat} : ∀ i,i < 4 → (if i = m then Value.int .u64 (wd X m) else Value.int .u64 (if m + 1 ≤ i then wd X i else 0)) = Value.int .u64 (if m ≤ i then wd X i else 0):=by
 intro i _
 by_cases h : i = m
 ·
  subst h; simp
 ·
  rw [if_neg h]; by_cases h2 : m ≤ i
  ·
   rw [if_pos h2,if_pos (by omega)]
  ·
   rw [if_neg h2,if_neg (by omega)]
theorem half_calls (X : Nat) (hX : X < top) (w : World) :
  Calls Tryz.prog 75 #[.agg #[vI vU (wd X 0),vI vU (wd X 1),vI vU (wd X 2),vI vU (wd X 3)]] w fun e w' => e = .returned (.agg #[vI vU (wd (X / 2) 0),vI vU (wd (X / 2) 1),vI vU (wd (X / 2) 2),vI vU (wd (X / 2) 3)]) ∧ Below w.heap.size w w':=by
 go_enter Tryz.func75,Tryz.ntmps75
 go_wp2
 go_loopw [4,5] (fun c i wr => ∃ k : Nat,k ≤ 4 ∧ i = .int .i64 ((k : Int) - 1) ∧ c = .int .u64 (wd X k) ∧ wr.rowIs w.heap.size 24 4 (fun j => .int .u64 (wd X j))
   ∧ wr.rowIs (w.heap.size + 1) 24 4 (fun _ => .int .u64 0) ∧ wr.rowIs (w.heap.size + 1 + 1) 24 4 (fun j => .int .u64 (if k ≤ j then wd (X / 2) j else 0)) ∧ Below w.heap.size w wr)
  (fun _ i _ => (intOf i + 1).toNat)
 case atStart => exact ⟨4,by omega,rfl,by rw [wd_top hX],((zag (n:=4) (by simp) rfl (arr4 fun j => .int .u64 (wd X j))).alloc _).alloc _,(zag (n:=4) (by simp) rfl (arr4 fun _ => .int .u64 0)).alloc _,(zag (n:=4) (f:=fun _ => .int .u64 0) (by simp) rfl (arr4 fun _ => .int .u64 0)).congr (fun i hi => by rw [if_neg (by omega)]),(((Below.refl _ _).alloc (by simp) _).alloc (by simp) _).alloc (by simp; omega) _⟩
 case round =>
  obtain ⟨k,hk,hi,rfl,hRX,hRZ,hS,hbel⟩:=hrel
  cases k with
  | zero =>
   subst hi
   obtain ⟨c0,c1,c2,c3⟩:=zae hS
   obtain ⟨d0,d1,d2,d3⟩:=zae hRZ
   obtain ⟨f0,f1,f2,f3⟩:=zaj hRZ
   simp only [Nat.zero_le,if_true] at c0 c1 c2 c3
   clear hS hRX
   go_wp2
   refine bodyPost_ret (results_cell_row rfl _ _ (w.heap.size + 1) 24 #[vI vU (wd (X / 2) 0),vI vU (wd (X / 2) 1),vI vU (wd (X / 2) 2),vI vU (wd (X / 2) 3)] (0,0) _ rfl (blk4 (put4 hRZ fun j => .int .u64 (wd (X / 2) j))) Tryz.underlying24 rfl (by kernel_rfl)) rfl ⟨rfl,zap hbel (by omega) _ _ _ _⟩
  | succ m =>
   obtain rfl : _ = Value.int .i64 (m : Int):=hi.trans (by congr 1; omega)
   have hm : m < 4:=by omega
   clear hi
   have c1:=hRX.cell hm
   have c2:=hS.cell hm
   have f2:=hS.frozen m
   have l1:=wd_lo X m
   have u1:=wd_le X m
   have l2:=wd_lo X (m + 1)
   have u2:=wd_le X (m + 1)
   go_wp2
   go_roundw
   case rel =>
    rw [half_word]
    exact ⟨m,by omega,rfl,rfl,zay hRX (by omega) _,zay hRZ (by omega) _,(hS.set m _).congr row_down,zas hbel (by omega) _⟩
   case measure => simp [intOf]
theorem khalf (X Z : Nat) (h : X / 2 = Z) (hX : X < top) (w : World) :
  Calls Tryz.prog 75 #[.agg #[vI vU (wd X 0),vI vU (wd X 1),vI vU (wd X 2),vI vU (wd X 3)]] w fun e w' => e = .returned (.agg #[vI vU (wd Z 0),vI vU (wd Z 1),vI vU (wd Z 2),vI vU (wd Z 3)]) ∧ Below w.heap.size w w':=by
 subst h; exact half_calls X hX w
theorem klen (X : Nat) (m : Int) (h : (bitLen X : Int) = m) (hX : X < top) (w : World) :
  Calls Tryz.prog 51 #[.agg #[vI vU (wd X 0),vI vU (wd X 1),vI vU (wd X 2),vI vU (wd X 3)]] w fun e w' => e = .returned (.int .i64 m) ∧ Below w.heap.size w w':=by
 subst h; exact len_calls X hX w
theorem zfw {P : Program} {w : World} {ops : Array Oper} {rest : List Oper} {o : Oper} {a : Act} {Q : Exit → Act → World → Prop} (hgd : o.guard = none) (d s : Operand) (dT sT : TypeId)
  (ho : o.op = .call { callee:=.builtin .copy,args:=#[d,s],argTypes:=#[dT,sT] }) (elem : TypeId) (hu : P.underlying dT = some (.slice elem)) (hsz : (P.info? elem).map (·.size) = some 1)
  (g dLen dCap : Nat) (A : Option Addr) (m c : Nat) (hd : a.eval d = .slice (some ⟨g,0,none⟩) dLen dCap) (hs : a.eval s = .slice A m c)
  (t n : Nat) (f : Nat → Value) (hrow : w.rowIs g t n f) (hm : m ≤ dLen) (hfit : m ≤ n) (v : Nat → Value) (hsrc : From w A m v)
  (h1 : ∀ j,j < m → (v j).oneCell' = true)
  (h : ∀ w',But g w w' → w'.rowIs g t n (fun j => if j < m then v j else f j) → wpList P ops Q rest (a.put o.dst (goInt (m : Nat))) w') : wpList P ops Q (o :: rest) a w:=by
 rcases hsrc with h0 | ⟨ad,rfl,hc⟩
 ·
  subst h0
  exact wpList_copy_nothing hgd d s dT sT ho elem hu hsz _ A dLen dCap 0 c hd hs (by simp) (h w (But.refl _ _) (hrow.congr fun j _ => by rw [if_neg (by omega)]))
 ·
  refine zgt hgd d s dT sT ho elem hu hsz g 0 dLen dCap ad m c hd hs t n f hrow m (Nat.min_eq_left hm).symm v hc (by omega) h1 fun w' hb hr => h w' hb (hr.congr fun j _ => ?_)
  by_cases e : j < m
  ·
   rw [if_pos ⟨by omega,by omega⟩,if_pos e]; rfl
  ·
   rw [if_neg (by omega),if_neg e]
theorem info64 : (Tryz.prog.info? 116).map (·.size) = some 64:=by kernel_rfl
theorem zB64 : (#[.int .u8 0,.int .u8 0,.int .u8 0,.int .u8 0,.int .u8 0,.int .u8 0,.int .u8 0,.int .u8 0,.int .u8 0,.int .u8 0,.int .u8 0,.int .u8 0,.int .u8 0,.int .u8 0,.int .u8 0,.int .u8 0,.int .u8 0,.int .u8 0,.int .u8 0,.int .u8 0,.int .u8 0,.int .u8 0,.int .u8 0,.int .u8 0,.int .u8 0,.int .u8 0,.int .u8 0,.int .u8 0,.int .u8 0,.int .u8 0,.int .u8 0,.int .u8 0,.int .u8 0,.int .u8 0,.int .u8 0,.int .u8 0,.int .u8 0,.int .u8 0,.int .u8 0,.int .u8 0,.int .u8 0,.int .u8 0,.int .u8 0,.int .u8 0,.int .u8 0,.int .u8 0,.int .u8 0,.int .u8 0,.int .u8 0,.int .u8 0,.int .u8 0,.int .u8 0,.int .u8 0,.int .u8 0,.int .u8 0,.int .u8 0,.int .u8 0,.int .u8 0,.int .u8 0,.int .u8 0,.int .u8 0,.int .u8 0,.int .u8 0,.int .u8 0] : Array Value) = arrOf 64 (fun _ => .int .u8 0):=rfl
theorem blockOf_calls (A : Option Addr) (n c : Nat) (y : Nat → Nat) (hy : ∀ j,y j < 256) (hnc : n ≤ c) (hn : n ≤ 1048576) (w : World) (hK : KT w) (hS : Src w A n y w.heap.size) :
  Calls Tryz.prog 130 #[.slice A n c] w fun e w' => e = .returned (.agg (arrOf 64 fun j => .int .u8 (kb y n j : Nat))) ∧ Below w.heap.size w w':=by
 have HK:=veil hK
 have HS:=veil hS
 have HY:=veil hy
 have hg0:=hK.lt
 clear hK hS hy
 go_enter Tryz.func130,Tryz.ntmps130
 go_upto_region 2 with (fail)
 rw [zB64]
 have hN0:=zbk w 64 116 (fun _ => Value.int .u8 0) rfl
 have hb0 : Below w.heap.size w (w.alloc (.cells (arrOf 64 (fun _ => .int .u8 0)) 116)):=(Below.refl _ _).alloc (Nat.le_refl _) _
 have hz0 : (w.alloc (.cells (arrOf 64 (fun _ => .int .u8 0)) 116)).heap.size = w.heap.size + 1:=by simp
 generalize w.alloc (.cells (arrOf 64 (fun _ => .int .u8 0)) 116) = w0 at *
 have hR1:=zbk w0 64 116 (fun _ => Value.int .u8 0) rfl
 rw [hz0] at hR1
 have hN1:=hN0.alloc (.cells (arrOf 64 (fun _ => .int .u8 0)) 116)
 have hb1:=hb0.alloc hb0.size (.cells (arrOf 64 (fun _ => .int .u8 0)) 116)
 have hz1 : (w0.alloc (.cells (arrOf 64 (fun _ => .int .u8 0)) 116)).heap.size = w.heap.size + 1 + 1:=by simp [hz0]
 generalize w0.alloc (.cells (arrOf 64 (fun _ => .int .u8 0)) 116) = w1 at *
 clear hN0 hb0 hz0
 have hzle : w.heap.size + 1 < w1.heap.size:=by omega
 by_cases hlong : n > 64
 ·
  have hil : (64 : Int) < (n : Int):=by omega
  go_wp2_with fail
  refine (sum_calls A n c y HY.out hnc hn w1 (zhw HK.out hb1) (zhg HS.out hb1 (by omega))).mono ?_
  rintro e w3 ⟨rfl,hb3⟩
  have HZ:=veil (And.intro (zbn y n) (And.intro (show (dgst y n).all (·.oneCell') = true from zbr fun _ _ => rfl) (show (Tryz.prog.info? 26).map (·.size) = some (dgst y n).size by rw [zbn]; exact infoD)))
  have hR3:=zab hR1 hb3 (by omega)
  have hN3:=zab hN1 hb3 (by omega)
  have hB3:=hb1.trans (hb3.mono (by omega))
  have hz3:=hb3.size
  obtain ⟨D,hD⟩ : ∃ D,D = dgst y n:=⟨_,rfl⟩
  rw [← hD] at HZ ⊢
  have HD:=veil hD
  clear hD hR1 hN1 hb1 hb3
  go_upto_region 4 with ((with_reducible refine zbh ?_); refine wpList_store_row rfl 26 _ _ rfl w3.heap.size D rfl rfl 26 _ (heap_alloc_last w3 _) HZ.out.2.2 (by rw [HZ.out.1]; rfl) HZ.out.2.1 ?_; rw [World.setRow_alloc_new])
  have hD4 : (w3.alloc (.cells D 26)).rowIs w3.heap.size 26 32 (fun j => .int .u8 (dByte (shaSt y n) j : Nat)):=by rw [HD.out]; exact zbk w3 32 26 _ rfl
  have hR4:=hR3.alloc (.cells D 26)
  have hN4:=hN3.alloc (.cells D 26)
  have hB4:=hB3.alloc hB3.size (.cells D 26)
  generalize w3.alloc (.cells D 26) = w4 at *
  generalize w3.heap.size = g4 at *
  obtain ⟨t,ht⟩ : ∃ t,t = fun j => dByte (shaSt y n) j:=⟨_,rfl⟩
  have HSR:=veil (show From w4 (some ⟨g4,0,none⟩) 32 (fun j => .int .u8 (t j : Nat)) from .inr ⟨_,rfl,fun j hj => by rw [Addr.add_mid,Nat.zero_add,ht]; exact hD4.cell hj⟩)
  have HT:=veil (show ∀ j,j < 64 → (if j < 32 then Value.int .u8 (t j : Nat) else .int .u8 0) = .int .u8 (kb y n j : Nat) from fun j _ => by
   unfold kb upTo
   rw [if_pos hlong,ht]
   split <;> rfl)
  have HR:=veil hR4
  have HN:=veil hN4
  have HB:=veil hB4
  clear hR4 hN4 hB4 hD4 ht hR3 hN3 hB3 hil
  obtain ⟨E,hE⟩ : ∃ E,E = arrOf 64 (fun j => Value.int .u8 (kb y n j : Nat)):=⟨_,rfl⟩
  have hEs : E.size = 64:=by rw [hE,zaw]
  have hE1 : E.all (·.oneCell') = true:=by rw [hE]; exact zbr fun _ _ => rfl
  have HEI:=veil (And.intro hEs (And.intro hE1 (show (Tryz.prog.info? 116).map (·.size) = some E.size by rw [hEs]; exact info64)))
  have HE:=veil hE
  clear hE hEs hE1
  go_wp2_with (first
   | ((with_reducible refine zax 13 ?_); refine zfw rfl _ _ 46 46 rfl 5 Tryz.underlying46 infoB (w.heap.size + 1) 64 64 (some ⟨g4,0,none⟩) 32 32 rfl rfl 116 64 _ HR.out (by omega) (by omega) (fun j => .int .u8 (t j : Nat)) HSR.out (fun _ _ => rfl) ?_; intro w6 hb6 hr6; have hr6 : w6.rowIs (w.heap.size + 1) 116 64 (fun j => Value.int .u8 (kb y n j : Nat)):=hr6.congr HT.out; have hR6:=blkOf hr6; rw [← HE.out] at hR6; have hR6:=veil hR6; have hN6:=veil (blkOf (zez HN.out hb6 (by omega))); have hB6:=veil (HB.out.trans (But.new hb6 (B:=w.heap.size) (by omega) HB.out.size)); clear hb6 hr6)
   | ((with_reducible refine zax 14 ?_); refine wpList_load_row rfl 116 _ rfl (w.heap.size + 1) rfl 116 E (0,0) _ hR6.out Tryz.underlying116 rfl HEI.out.2.2 ?_)
   | ((with_reducible refine zbh ?_); refine wpList_store_row rfl 116 _ _ rfl w.heap.size E rfl rfl 116 _ hN6.out HEI.out.2.2 (by rw [HEI.out.1,zaw]) HEI.out.2.1 ?_))
  exact bodyPost_ret (results_cell_row rfl _ _ w.heap.size 116 E (0,0) _ rfl (setRow_heap w6 w.heap.size _ E 116 (0,0) hN6.out) Tryz.underlying116 rfl HEI.out.2.2) rfl ⟨by rw [HE.out],zbp hB6.out (Nat.le_refl _) _⟩
 ·
  have hil : ¬ ((64 : Int) < (n : Int)):=by omega
  have HSR:=veil (zis HS.out hb1)
  have HT:=veil (show ∀ j,j < 64 → (if j < n then Value.int .u8 (y j : Nat) else .int .u8 0) = .int .u8 (kb y n j : Nat) from fun j _ => by
   unfold kb upTo
   rw [if_neg hlong]
   split <;> rfl)
  have HR:=veil hR1
  have HN:=veil hN1
  have HB:=veil hb1
  clear hR1 hN1 hb1
  obtain ⟨E,hE⟩ : ∃ E,E = arrOf 64 (fun j => Value.int .u8 (kb y n j : Nat)):=⟨_,rfl⟩
  have hEs : E.size = 64:=by rw [hE,zaw]
  have hE1 : E.all (·.oneCell') = true:=by rw [hE]; exact zbr fun _ _ => rfl
  have HEI:=veil (And.intro hEs (And.intro hE1 (show (Tryz.prog.info? 116).map (·.size) = some E.size by rw [hEs]; exact info64)))
  have HE:=veil hE
  clear hE hEs hE1
  go_wp2_with (first
   | ((with_reducible refine zax 13 ?_); refine zfw rfl _ _ 46 46 rfl 5 Tryz.underlying46 infoB (w.heap.size + 1) 64 64 A n c rfl rfl 116 64 _ HR.out (by omega) (by omega) (fun j => .int .u8 (y j : Nat)) HSR.out (fun _ _ => rfl) ?_; intro w6 hb6 hr6; have hr6 : w6.rowIs (w.heap.size + 1) 116 64 (fun j => Value.int .u8 (kb y n j : Nat)):=hr6.congr HT.out; have hR6:=blkOf hr6; rw [← HE.out] at hR6; have hR6:=veil hR6; have hN6:=veil (blkOf (zez HN.out hb6 (by omega))); have hB6:=veil (HB.out.trans (But.new hb6 (B:=w.heap.size) (by omega) HB.out.size)); clear hb6 hr6)
   | ((with_reducible refine zax 14 ?_); refine wpList_load_row rfl 116 _ rfl (w.heap.size + 1) rfl 116 E (0,0) _ hR6.out Tryz.underlying116 rfl HEI.out.2.2 ?_)
   | ((with_reducible refine zbh ?_); refine wpList_store_row rfl 116 _ _ rfl w.heap.size E rfl rfl 116 _ hN6.out HEI.out.2.2 (by rw [HEI.out.1,zaw]) HEI.out.2.1 ?_))
  exact bodyPost_ret (results_cell_row rfl _ _ w.heap.size 116 E (0,0) _ rfl (setRow_heap w6 w.heap.size _ E 116 (0,0) hN6.out) Tryz.underlying116 rfl HEI.out.2.2) rfl ⟨by rw [HE.out],zbp hB6.out (Nat.le_refl _) _⟩
theorem text_one (t : Nat → Nat) : textN (fun _ => 32) (fun _ => t) 1 = t:=zhe _ t
theorem parts_one {W : World} {b g : Nat} {t : Nat → Nat} (ht : ∀ j,t j < 256) (hb : W.cell? ⟨b,0,none⟩ = some (.slice (some ⟨g,0,none⟩) 32 32)) (hg : g < W.heap.size) (hc : ∀ j,j < 32 → W.cell? ⟨g,j,none⟩ = some (.int .u8 (t j : Nat))) :
  Parts3 W (some ⟨b,0,none⟩) 1 (fun _ => some ⟨g,0,none⟩) (fun _ => 32) (fun _ => 32) (fun _ => t) where
 row:=.inr ⟨b,0,rfl,World.block_lt_of_cell? W _ hb,fun r hr => by
                                     obtain rfl : r = 0:=by omega
                                     exact hb⟩
 src:=fun r hr => .inr ⟨g,0,rfl,hg,by omega,fun j hj => by rw [Nat.zero_add]; exact hc j hj⟩
 cap:=fun _ _ => Nat.le_refl _
 lt:=fun _ => ht
theorem ofmac_calls (K : Option Addr) (n c : Nat) (y : Nat → Nat) (hy : ∀ j,y j < 256) (hnc : n ≤ c) (hn : n ≤ 1048576) (AL : Option Addr) (nl cl : Nat) (A : Nat → Option Addr) (L C : Nat → Nat) (Y : Nat → Nat → Nat) (hnl : nl ≤ 100000) (hT : lenN L nl ≤ 100000)
  (w : World) (hK : KT w) (hS : Src w K n y w.heap.size) (hP : Parts3 w AL nl A L C Y) :
  Calls Tryz.prog 120 #[.slice K n c,.slice AL nl cl] w fun e w' => e = .returned (.agg (macD y n (textN L Y nl) (lenN L nl))) ∧ Below w.heap.size w w':=by
 have HK:=veil hK
 have HS:=veil hS
 have HY:=veil hy
 have HP:=veil hP
 have HT:=veil (And.intro hT hnl)
 have hg0:=hK.lt
 clear hK hS hy hP hT hnl
 go_enter Tryz.func120,Tryz.ntmps120
 go_upto_region 1 with (fail)
 rw [zeros32]
 have hR1:=zbk w 32 26 (fun _ => Value.int .u8 0) rfl
 have hb1 : Below w.heap.size w (w.alloc (.cells (arrOf 32 (fun _ => .int .u8 0)) 26)):=(Below.refl _ _).alloc (Nat.le_refl _) _
 generalize w.alloc (.cells (arrOf 32 (fun _ => .int .u8 0)) 26) = w1 at *
 go_wp2_with fail
 refine (blockOf_calls K n c y HY.out hnc hn w1 (zhw HK.out hb1) (zhg HS.out hb1 hb1.size)).mono ?_
 rintro e w2 ⟨rfl,hb2⟩
 have hR2:=zab hR1 hb2 hR1.lt
 have hB2:=hb1.trans (hb2.mono hb1.size)
 have hlt2:=hR2.lt
 obtain ⟨E,hE⟩ : ∃ E,E = arrOf 64 (fun j => Value.int .u8 (kb y n j : Nat)):=⟨_,rfl⟩
 have hEs : E.size = 64:=by rw [hE,zaw]
 have hE1 : E.all (·.oneCell') = true:=by rw [hE]; exact zbr fun _ _ => rfl
 have HEI:=veil (And.intro hEs (And.intro hE1 (show (Tryz.prog.info? 116).map (·.size) = some E.size by rw [hEs]; exact info64)))
 rw [← hE]
 have HE:=veil hE
 clear hE hEs hE1 hR1 hb1 hb2
 have HM1:=veil (fun W (hk : KT W) (hp : Parts3 W AL nl A L C Y) => zin (kb y n) (kb_lt HY.out n) 54 (by decide) AL nl cl A L C Y HT.out.2 HT.out.1 W hk hp)
 have HM2:=veil (fun W g d (t : Nat → Nat) (ht : ∀ j,t j < 256) (hk : KT W) (hp : Parts3 W (some ⟨g,0,none⟩) 1 (fun _ => some ⟨d,0,none⟩) (fun _ => 32) (fun _ => 32) (fun _ => t)) =>
  zin (kb y n) (kb_lt HY.out n) 92 (by decide) (some ⟨g,0,none⟩) 1 1 (fun _ => some ⟨d,0,none⟩) (fun _ => 32) (fun _ => 32) (fun _ => t) (by decide) (by decide) W hk hp)
 rw [← HE.out] at HM1 HM2
 go_upto_region 2 with ((with_reducible refine zbh ?_); refine wpList_store_row rfl 116 _ _ rfl w2.heap.size E rfl rfl 116 _ (heap_alloc_last w2 _) HEI.out.2.2 (by rw [HEI.out.1]; rfl) HEI.out.2.1 ?_; rw [World.setRow_alloc_new])
 have hE3 : (w2.alloc (.cells E 116)).heap[w2.heap.size]? = some (.cells E 116 (0,0)):=heap_alloc_last w2 _
 have hR3:=hR2.alloc (.cells E 116)
 have hB3:=hB2.alloc hB2.size (.cells E 116)
 have hlt3 : w2.heap.size < (w2.alloc (.cells E 116)).heap.size:=by simp
 generalize w2.alloc (.cells E 116) = w3 at *
 generalize hg5 : w2.heap.size = g5 at *
 clear hR2 hB2 hg5
 obtain ⟨D,hD⟩ : ∃ D,D = dgst (macIn y n (textN L Y nl)) (64 + lenN L nl):=⟨_,rfl⟩
 have HZ:=veil (And.intro (zbn (macIn y n (textN L Y nl)) (64 + lenN L nl)) (And.intro (show (dgst (macIn y n (textN L Y nl)) (64 + lenN L nl)).all (·.oneCell') = true from zbr fun _ _ => rfl) (show (Tryz.prog.info? 26).map (·.size) = some (dgst (macIn y n (textN L Y nl)) (64 + lenN L nl)).size by rw [zbn]; exact infoD)))
 have HM1':=veil (show ∀ W,KT W → Parts3 W AL nl A L C Y → Calls Tryz.prog 131 #[.agg E,.int .u8 54,.slice AL nl cl] W fun e W' => e = .returned (.agg D) ∧ Below W.heap.size W W' from by rw [hD]; exact HM1.out)
 rw [← hD] at HZ
 have HD:=veil hD
 have HE3:=veil hE3
 have H3:=veil (And.intro hR3 hB3)
 clear hD HM1 hE3 hR3 hB3
 go_upto_region 3 with (first
  | ((with_reducible refine zax 9 ?_); refine wpList_load_row rfl 116 _ rfl g5 rfl 116 E (0,0) _ HE3.out Tryz.underlying116 rfl HEI.out.2.2 ?_)
  | (go_at_call 131; refine (HM1'.out w3 (zhw HK.out H3.out.2) (HP.out.call H3.out.2)).mono ?_; rintro e w4 ⟨rfl,hb4⟩)
  | ((with_reducible refine zbh ?_); refine wpList_store_row rfl 26 _ _ rfl w4.heap.size D rfl rfl 26 _ (heap_alloc_last w4 _) HZ.out.2.2 (by rw [HZ.out.1]; rfl) HZ.out.2.1 ?_; rw [World.setRow_alloc_new]))
 have hE5 : (w4.alloc (.cells D 26)).heap[g5]? = some (.cells E 116 (0,0)):=((Below.heap_alloc _ _ _ (by have:=hb4.size; omega)).trans (hb4.block g5 hlt3)).trans HE3.out
 have hR5:=(zab H3.out.1 hb4 (by omega)).alloc (.cells D 26)
 have hB5:=(H3.out.2.trans (hb4.mono H3.out.2.size)).alloc (H3.out.2.trans (hb4.mono H3.out.2.size)).size (.cells D 26)
 have hD5 : (w4.alloc (.cells D 26)).rowIs w4.heap.size 26 32 (fun j => .int .u8 (dByte (shaSt (macIn y n (textN L Y nl)) (64 + lenN L nl)) j : Nat)):=by rw [HD.out]; exact zbk w4 32 26 _ rfl
 have hlt4 : g5 < w4.heap.size:=by have:=hb4.size; omega
 have hlt5 : w4.heap.size < (w4.alloc (.cells D 26)).heap.size:=by simp
 generalize w4.alloc (.cells D 26) = w5 at *
 generalize hg6 : w4.heap.size = g6 at *
 clear hb4 H3 HE3 HM1' hg6
 obtain ⟨t,ht⟩ : ∃ t,t = fun j => dByte (shaSt (macIn y n (textN L Y nl)) (64 + lenN L nl)) j:=⟨_,rfl⟩
 have hD5 : w5.rowIs g6 26 32 (fun j => .int .u8 (t j : Nat)):=by rw [ht]; exact hD5
 obtain ⟨F,hF⟩ : ∃ F,F = macD y n (textN L Y nl) (lenN L nl):=⟨_,rfl⟩
 have HF:=veil (show F.size = 32 ∧ F.all (·.oneCell') = true ∧ (Tryz.prog.info? 26).map (·.size) = some F.size from by
  rw [hF]; exact ⟨zbn _ _,zbr fun _ _ => rfl,by show _ = some (dgst _ _).size; rw [zbn]; exact infoD⟩)
 have HM3:=veil (show ∀ W g,KT W → But w.heap.size w5 W → W.cell? ⟨g,0,none⟩ = some (.slice (some ⟨g6,0,none⟩) 32 32) → Calls Tryz.prog 131 #[.agg E,.int .u8 92,.slice (some ⟨g,0,none⟩) 1 1] W fun e W' => e = .returned (.agg F) ∧ Below W.heap.size W W' from fun W g hk hbt hc => by
  have h:=HM2.out W g g6 t (fun j => by rw [ht]; exact zgh _ j) hk (parts_one (fun j => by rw [ht]; exact zgh _ j) hc (by have:=hbt.size; omega) (fun j hj => (World.cell?_of_block (a:=⟨g6,j,none⟩) (hbt.block g6 hlt5 (by simp; omega))).trans (hD5.cell hj)))
  rw [text_one,ht] at h
  rw [hF]
  exact h)
 have HFF:=veil hF
 have hrg : w5.rangeAt g5 0 E.toList:=fun j v hv => by
  rw [Nat.zero_add,cell_of_row w5 g5 j E 116 (0,0) hE5]
  simpa using hv
 have HN:=veil hR5
 have hoF : ∀ v ∈ F.toList,v.oneCell' = true:=fun v hv => (Array.all_eq_true_iff_forall_mem.1 HF.out.2.1) v (by simpa using hv)
 have hiF : (Tryz.prog.info? 26).map (·.size) = some F.toList.length:=by rw [Array.length_toList]; exact HF.out.2.2
 have HK5:=veil (And.intro (zhw HK.out hB5) hB5)
 have hu:=Tryz.underlying116
 have hii : (Tryz.prog.info? 116).map (·.size) = some E.toList.length:=by rw [Array.length_toList]; exact HEI.out.2.2
 have hl64 : E.toList.length = 64:=by rw [Array.length_toList]; exact HEI.out.1
 have hone : ∀ v ∈ E.toList,v.oneCell' = true:=fun v hv => (Array.all_eq_true_iff_forall_mem.1 HEI.out.2.1) v (by simpa using hv)
 have hT : E.toList.toArray = E:=by simp
 obtain ⟨Z,hZ⟩ : ∃ Z,Z = E.toList:=⟨_,rfl⟩
 rw [← hZ] at hii hl64 hone hT hrg
 have hg5 : g5 < w5.heap.size:=by omega
 clear hZ hF ht hD5 HM2 hE5 hR5 hB5 HE HD HZ HEI
 have hS0 : w5.rangeAt g5 0 Z ∧ But w.heap.size w5 w5:=⟨hrg,But.refl _ _⟩
 go_region_held3 (fun w' => w'.rangeAt g5 0 Z ∧ But w.heap.size w5 w')
  (first
   | with_reducible assumption
   | exact hS0
   | exact keepD hS0
   | exact keepD (keepA hg5 hS0)
   | exact keepC hb' hgW (by assumption)
   | exact keepS (Nat.ne_of_gt hlt2) (by assumption))
  (first
   | (go_at_call 131; have hgW:=(show g5 < (w5.alloc (.cells #[.slice (some ⟨g6,0,none⟩) 32 32] 46)).drew.heap.size from by simp [World.drew]; omega); refine (HM3.out _ w5.heap.size ((HK5.out.1.alloc _).drew) (But.alloc (But.refl _ w5) _).drew (by rw [World.cell?_drew,World.cell?_alloc_mark]; rfl)).mono ?_; rintro e w' ⟨rfl,hb'⟩; have hN':=veil (zab (zbx (HN.out.alloc (.cells #[.slice (some ⟨g6,0,none⟩) 32 32] 46)) 1) hb' (by omega)); have hth:=there_row hN'.out (show F.toList.length = 32 by rw [Array.length_toList]; exact HF.out.1)))
 rename (_ ∧ But _ _ _) => hHeld
 clear hu hrg hT hone hl64 hii hS0 hoF hiF hth
 go_wp2
 exact bodyPost_ret (results_cell_row rfl _ _ w.heap.size 26 F (0,0) _ rfl (ziw hN'.out HF.out.1) Tryz.underlying26 rfl HF.out.2.2) rfl ⟨by rw [HFF.out],HK5.out.2.trans (But.new hHeld.2 (B:=w.heap.size) (Nat.le_refl _) HK5.out.2.size)⟩
def sb (s : KV) (j : Nat) : Value:=.int .u8 ((if j < 32 then s.k j else s.v (j - 32) : Nat) : Int)
def SRow (w : World) (g : Nat) (s : KV) : Prop:=w.rowIs g 125 64 (sb s)
section
variable {w w' : World} {g : Nat} {s : KV}
theorem SRow.lt (h : SRow w g s) : g < w.heap.size:=World.rowIs.lt h
theorem SRow.key (h : SRow w g s) : Src w (some ⟨g,0,none⟩) 32 s.k w.heap.size:=.inr ⟨g,0,rfl,h.lt,Nat.ne_of_lt h.lt,fun j hj => by
 have h1:=World.rowIs.cell h (show j < 64 by omega)
 unfold sb at h1
 rw [if_pos hj] at h1
 rw [Nat.zero_add]; exact h1⟩
theorem SRow.cellV (h : SRow w g s) (j : Nat) (hj : j < 32) : w.cell? ⟨g,32 + j,none⟩ = some (.int .u8 (s.v j : Nat)):=by
 have h1:=World.rowIs.cell h (show 32 + j < 64 by omega)
 unfold sb at h1
 rw [if_neg (by omega),show 32 + j - 32 = j by omega] at h1
 exact h1
theorem SRow.val (h : SRow w g s) : Src w (some ⟨g,32,none⟩) 32 s.v w.heap.size:=.inr ⟨g,32,rfl,h.lt,Nat.ne_of_lt h.lt,h.cellV⟩
theorem SRow.call (h : SRow w g s) (hb : Below w.heap.size w w') : SRow w' g s:=zab h hb h.lt
theorem SRow.but {r : Nat} (h : SRow w g s) (k : But r w w') (hne : g ≠ r) : SRow w' g s:=zez h k hne
theorem SRow.alloc (h : SRow w g s) (o : Obj) : SRow (w.alloc o) g s:=World.rowIs.alloc h o
theorem SRow.putV {y : Nat → Nat} {F : Array Value} (h : SRow w g s) (hF : F = arrOf 32 (fun i => .int .u8 (y i : Nat))) : SRow (w.setCells g 32 F.toList) g ⟨s.k,y⟩ :=
 (zdz F.toList 32 w (sb s) h).congr fun j hj => by
  have hl : F.toList.length = 32:=by rw [Array.length_toList,hF,zaw]
  unfold sb
  by_cases h1 : j < 32
  ·
   rw [if_neg (by omega),if_pos h1,if_pos h1]
  ·
   rw [if_pos (by omega),if_neg h1,List.getD_eq_getElem?_getD,Array.getElem?_toList,hF,zcy _ (by omega)]
   rfl
theorem SRow.putK {y : Nat → Nat} {F : Array Value} (h : SRow w g s) (hF : F = arrOf 32 (fun i => .int .u8 (y i : Nat))) : SRow (w.setCells g 0 F.toList) g ⟨y,s.v⟩ :=
 (zdz F.toList 0 w (sb s) h).congr fun j hj => by
  have hl : F.toList.length = 32:=by rw [Array.length_toList,hF,zaw]
  unfold sb
  by_cases h1 : j < 32
  ·
   rw [if_pos (by omega),if_pos h1,List.getD_eq_getElem?_getD,Array.getElem?_toList,hF,Nat.sub_zero,zcy _ (by omega)]
   rfl
  ·
   rw [if_neg (by omega),if_neg h1,if_neg h1]
theorem there_mid {b t n o m : Nat} {f : Nat → Value} (h : w.rowIs b t n f) (hm : o + m ≤ n) : w.there b o m:=fun j hj => by
 rw [h.cell (by omega)]
 exact ⟨rfl,h.frozen _⟩
end
theorem parts_at {W : World} {b g o : Nat} {t : Nat → Nat} (ht : ∀ j,t j < 256) (hb : W.cell? ⟨b,0,none⟩ = some (.slice (some ⟨g,o,none⟩) 32 32)) (hg : g < W.heap.size) (hc : ∀ j,j < 32 → W.cell? ⟨g,o + j,none⟩ = some (.int .u8 (t j : Nat))) :
  Parts3 W (some ⟨b,0,none⟩) 1 (fun _ => some ⟨g,o,none⟩) (fun _ => 32) (fun _ => 32) (fun _ => t) where
 row:=.inr ⟨b,0,rfl,World.block_lt_of_cell? W _ hb,fun r hr => by
                                     obtain rfl : r = 0:=by omega
                                     exact hb⟩
 src:=fun r hr => .inr ⟨g,o,rfl,hg,by omega,fun j hj => hc j hj⟩
 cap:=fun _ _ => Nat.le_refl _
 lt:=fun _ => ht
theorem step_calls (g : Nat) (s : KV) (hs : s.Ok) (w : World) (hK : KT w) (hS : SRow w g s) :
  Calls Tryz.prog 103 #[.pointer (some ⟨g,0,none⟩)] w fun e w' => e = .returned (.tuple #[]) ∧ SRow w' g s.step ∧ But g w w':=by
 obtain ⟨F,hF⟩ : ∃ F,F = macD s.k 32 s.v 32:=⟨_,rfl⟩
 have HF:=veil (show F.size = 32 ∧ F.all (·.oneCell') = true ∧ (Tryz.prog.info? 26).map (·.size) = some F.size from by
  rw [hF]; exact ⟨zbn _ _,zbr fun _ _ => rfl,by show _ = some (dgst _ _).size; rw [zbn]; exact infoD⟩)
 have HM:=veil (show ∀ W b,Below w.heap.size w W → W.cell? ⟨b,0,none⟩ = some (.slice (some ⟨g,32,none⟩) 32 32) → Calls Tryz.prog 120 #[.slice (some ⟨g,0,none⟩) 32 32,.slice (some ⟨b,0,none⟩) 1 1] W fun e W' => e = .returned (.agg F) ∧ Below W.heap.size W W' from fun W b hb hc => by
  have hS':=hS.call hb
  have h:=ofmac_calls (some ⟨g,0,none⟩) 32 32 s.k hs.k (by decide) (by decide) (some ⟨b,0,none⟩) 1 1 (fun _ => some ⟨g,32,none⟩) (fun _ => 32) (fun _ => 32) (fun _ => s.v) (by decide) (by decide) W (hK.call hb) hS'.key (parts_at hs.v hc hS'.lt hS'.cellV)
  rw [text_one] at h
  rw [hF]
  exact h)
 have HFF:=veil (hF.trans (macD_nb _ _ _ _))
 have HS:=veil hS
 have hoF : ∀ v ∈ F.toList,v.oneCell' = true:=fun v hv => (Array.all_eq_true_iff_forall_mem.1 HF.out.2.1) v (by simpa using hv)
 have hiF : (Tryz.prog.info? 26).map (·.size) = some F.toList.length:=by rw [Array.length_toList]; exact HF.out.2.2
 have hS0 : Bt g 125 64 w w:=.of hS (But.refl _ _)
 have hlt:=hS.lt
 clear hF hs hK hS
 go_enter Tryz.func103,Tryz.ntmps103
 go_region_held3 (fun w' => Bt g 125 64 w w')
  (first
   | with_reducible assumption
   | exact hS0
   | exact hS0.drew
   | exact hS0.alloc _
   | exact (hS0.alloc _).drew
   | exact Bt.drew (by with_reducible assumption)
   | exact Bt.setCells (by with_reducible assumption) _ _
   | exact Bt.call (by with_reducible assumption) (by assumption))
  (first
   | (go_at_call 120; refine (HM.out _ w.heap.size ((Below.refl _ _).alloc (Nat.le_refl _) _).drew (by rw [World.cell?_drew,World.cell?_alloc_mark]; rfl)).mono ?_; rintro e w' ⟨rfl,hb'⟩; have hN':=veil (HS.out.call (((Below.refl _ _).alloc (Nat.le_refl _) _).drew.trans (hb'.mono (by simp [World.drew])))); have hth:=there_mid (o:=32) (m:=F.toList.length) hN'.out (by rw [Array.length_toList,HF.out.1]; decide)))
 rename (Bt _ _ _ _ _) => hHeld
 clear hoF hiF hS0 hth
 go_wp2
 go_end0
 exact ⟨rfl,hN'.out.putV HFF.out,hHeld.1⟩
def pL (L : Nat → Nat) (r : Nat) : Nat:=if r = 0 then 32 else if r = 1 then 1 else L (r - 2)
def pY (v : Nat → Nat) (b : Nat) (Y : Nat → Nat → Nat) (r : Nat) : Nat → Nat:=if r = 0 then v else if r = 1 then cat (fun _ => b) 1 none0 else Y (r - 2)
theorem textN_two (v : Nat → Nat) (b : Nat) (L : Nat → Nat) (Y : Nat → Nat → Nat) (n : Nat) :
  textN (pL L) (pY v b Y) (2 + n) = tx v b (textN L Y n) ∧ lenN (pL L) (2 + n) = 33 + lenN L n:=by
 induction n with
 | zero =>
  refine ⟨?_,rfl⟩
  show cat (cat (fun _ => 0) 0 v) 32 (cat (fun _ => b) 1 none0) = cat v 32 (cat (fun _ => b) 1 none0)
  rw [zhe]
 | succ n ih =>
  obtain ⟨h1,h2⟩:=ih
  have e : 2 + (n + 1) = (2 + n) + 1:=by omega
  have e2 : pY v b Y (2 + n) = Y n:=by
   unfold pY
   rw [if_neg (by omega),if_neg (by omega),show 2 + n - 2 = n by omega]
  have e3 : pL L (2 + n) = L n:=by
   unfold pL
   rw [if_neg (by omega),if_neg (by omega),show 2 + n - 2 = n by omega]
  rw [e]
  refine ⟨?_,?_⟩
  ·
   show cat (textN _ _ (2 + n)) (lenN _ (2 + n)) (pY v b Y (2 + n)) = tx v b (cat (textN L Y n) (lenN L n) (Y n))
   rw [h1,h2,e2]
   unfold tx
   rw [show 33 + lenN L n = 32 + (1 + lenN L n) by omega,cat_assoc,cat_assoc]
  ·
   show lenN _ (2 + n) + pL L (2 + n) = 33 + (lenN L n + L n)
   rw [h2,e3]
   omega
theorem infoS3 : (Tryz.prog.info? 46).map (fun i => (i.zero,i.size,i.bytes)) = some (some (.slice none 0 0),1,24):=by kernel_rfl
theorem parts_two {W : World} {g g1 g3 b : Nat} {s : KV} (hs : s.Ok) (hb : b < 256) {np : Nat} {AL : Option Addr} {A : Nat → Option Addr} {L C : Nat → Nat} {Y : Nat → Nat → Nat} (hS : SRow W g s) (hP : Parts3 W AL np A L C Y)
  (h1 : W.cell? ⟨g1,0,none⟩ = some (.int .u8 (b : Int)))
  (h3 : Pre W g3 46 (2 + np) (fun j => if j < 2 then (if j = 0 then .slice (some ⟨g,32,none⟩) 32 32 else .slice (some ⟨g1,0,none⟩) 1 1) else .slice (A (j - 2)) (L (j - 2)) (C (j - 2)))) :
  Parts3 W (some ⟨g3,0,none⟩) (2 + np) (fun r => if r = 0 then some ⟨g,32,none⟩ else if r = 1 then some ⟨g1,0,none⟩ else A (r - 2)) (pL L) (pL C) (pY s.v b Y) where
 row:=.inr ⟨g3,0,rfl,h3.lt,fun r hr => by
  rw [Nat.zero_add,h3.cell hr]
  unfold pL
  by_cases e0 : r = 0
  ·
   subst e0; rfl
  ·
   by_cases e1 : r = 1
   ·
    subst e1; rfl
   ·
    simp only [e0,e1,if_false,show ¬ r < 2 by omega]⟩
 src:=fun r hr => by
  unfold pL pY
  by_cases e0 : r = 0
  ·
   subst e0; exact hS.val
  ·
   by_cases e1 : r = 1
   ·
    subst e1
    exact .inr ⟨g1,0,rfl,World.block_lt_of_cell? W _ h1,Nat.ne_of_lt (World.block_lt_of_cell? W _ h1),fun j hj => by
     have hj' : j < 1:=hj
     obtain rfl : j = 0:=by omega
     exact h1⟩
   ·
    simp only [e0,e1,if_false]
    exact hP.src (r - 2) (by omega)
 cap:=fun r hr => by
  unfold pL
  by_cases e0 : r = 0
  ·
   subst e0; exact Nat.le_refl _
  ·
   by_cases e1 : r = 1
   ·
    subst e1; exact Nat.le_refl _
   ·
    simp only [e0,e1,if_false]
    exact hP.cap (r - 2) (by omega)
 lt:=fun r j => by
  unfold pY
  split
  ·
   exact hs.v j
  ·
   split
   ·
    exact cat_lt (fun _ => hb) (fun _ => by show (0 : Nat) < 256; decide) j
   ·
    exact hP.lt _ j
theorem nmix_calls (g : Nat) (hg : g ≠ 0) (s : KV) (hs : s.Ok) (b : Nat) (hb : b < 256) (AL : Option Addr) (np cl : Nat) (A : Nat → Option Addr) (L C : Nat → Nat) (Y : Nat → Nat → Nat) (hnp : np ≤ 2) (hT : lenN L np ≤ 1000)
  (w : World) (hK : KT w) (hS : SRow w g s) (hP : Parts3 w AL np A L C Y) :
  Calls Tryz.prog 102 #[.pointer (some ⟨g,0,none⟩),.int .u8 (b : Int),.slice AL np cl] w fun e w' => e = .returned (.tuple #[]) ∧ SRow w' g (s.mix b (textN L Y np) (lenN L np)) ∧ But g w w':=by
 obtain ⟨i8,hi8,hz0,hz1,hz2⟩:=info_parts infoS3
 have HI:=veil (And.intro hi8 (And.intro hz0 (And.intro hz1 hz2)))
 clear hi8 hz0 hz1 hz2
 have HK:=veil hK
 have HS:=veil hS
 have HP:=veil hP
 have HT:=veil (And.intro hnp hT)
 have HB:=veil (And.intro hs hb)
 have HG:=veil hg
 clear hK hS hP hnp hT hs hb hg
 have hz1 : (w.alloc (.cells #[.int .u8 (b : Int)] 5)).heap.size = w.heap.size + 1:=by simp
 have hO:=Own.made (base:=w.heap.size) (e:=46) (f:=fun j => if j = 0 then .slice (some ⟨g,32,none⟩) 32 32 else .slice (some ⟨w.heap.size,0,none⟩) 1 1) (w.alloc (.cells #[.int .u8 (b : Int)] 5))
  (cs:=#[.slice (some ⟨g,32,none⟩) 32 32,.slice (some ⟨w.heap.size,0,none⟩) 1 1]) (by rw [hz1]; omega) (by show 2 ≤ maxLen; decide) (fun i hi => by
   have : i < 2:=hi
   obtain rfl | rfl : i = 0 ∨ i = 1:=by omega
   ·
    rfl
   ·
    rfl)
 rw [hz1] at hO
 have hb2 : Below w.heap.size w ((w.alloc (.cells #[.int .u8 (b : Int)] 5)).alloc (.cells #[.slice (some ⟨g,32,none⟩) 32 32,.slice (some ⟨w.heap.size,0,none⟩) 1 1] 46)):=((Below.refl _ _).alloc (Nat.le_refl _) _).alloc (by rw [hz1]; omega) _
 have hF : From ((w.alloc (.cells #[.int .u8 (b : Int)] 5)).alloc (.cells #[.slice (some ⟨g,32,none⟩) 32 32,.slice (some ⟨w.heap.size,0,none⟩) 1 1] 46)) AL np (fun j => .slice (A j) (L j) (C j)):=by
  rcases HP.out.row with h | ⟨bb,o,h,hlt,hc⟩
  ·
   exact .inl h
  ·
   exact .inr ⟨_,h,fun j hj => by rw [Addr.add_mid]; exact (hb2.cell (p:=⟨bb,o + j,none⟩) hlt).trans (hc j hj)⟩
 have hm : ((w.alloc (.cells #[.int .u8 (b : Int)] 5)).alloc (.cells #[.slice (some ⟨g,32,none⟩) 32 32,.slice (some ⟨w.heap.size,0,none⟩) 1 1] 46)).heap[w.heap.size]? = some (.cells #[.int .u8 (b : Int)] 5 (0,0)):=(Below.heap_alloc _ _ _ (by rw [hz1]; omega)).trans (heap_alloc_last w _)
 have HO:=veil (And.intro hO (And.intro hF (And.intro hb2 hm)))
 clear hO hF hb2 hm hz1
 go_enter Tryz.func102,Tryz.ntmps102
 go_upto_region 1 with (at_builtin; refine zau _ rfl _ _ _ rfl w.heap.size 46 i8 (.slice none 0 0) 24 Tryz.underlying120 HI.out.1 HI.out.2.1 HI.out.2.2.1 HI.out.2.2.2 rfl _ 2 _ rfl HO.out.1 AL np cl rfl (fun j => .slice (A j) (L j) (C j)) HO.out.2.1 (fun _ => rfl) (by have:=HT.out.1; unfold maxLen; omega) (by have:=HT.out.1; omega) (by simp; omega) ?_; intro v3 w3 hO3 hg3 ha3)
 replace hg3 : World.grownBy _ w3 (some (w.heap.size + 1)):=hg3
 have hb3 : Below w.heap.size w w3:=zct HO.out.2.2.1 hg3 (by simp; omega) (fun k e => by injection e; omega)
 have hm3 : w3.cell? ⟨w.heap.size,0,none⟩ = some (.int .u8 (b : Int)):=by
  rw [cell_of_row w3 _ 0 #[.int .u8 (b : Int)] 5 (0,0) ((hg3.block w.heap.size (by simp; omega) (by intro e; injection e; omega)).trans HO.out.2.2.2)]; rfl
 obtain ⟨g3,cap,rfl,hc3,hbg3,hp3⟩:=hO3.pre (by omega)
 have hP3:=parts_two HB.out.1 HB.out.2 (HS.out.call hb3) (HP.out.call hb3) hm3 hp3
 obtain ⟨F,hF⟩ : ∃ F,F = macD s.k 32 (tx s.v b (textN L Y np)) (33 + lenN L np):=⟨_,rfl⟩
 have HF:=veil (show F.size = 32 ∧ F.all (·.oneCell') = true ∧ (Tryz.prog.info? 26).map (·.size) = some F.size from by
  rw [hF]; exact ⟨zbn _ _,zbr fun _ _ => rfl,by show _ = some (dgst _ _).size; rw [zbn]; exact infoD⟩)
 have hM:=ofmac_calls (some ⟨g,0,none⟩) 32 32 s.k HB.out.1.k (by decide) (by decide) (some ⟨g3,0,none⟩) (2 + np) cap _ _ _ _ (by have:=HT.out.1; omega) (by rw [(textN_two s.v b L Y np).2]; have:=HT.out.2; omega) w3 (HK.out.call hb3) (HS.out.call hb3).key hP3
 rw [(textN_two s.v b L Y np).1,(textN_two s.v b L Y np).2,← hF] at hM
 have HM:=veil hM
 have HFF:=veil (hF.trans (macD_nb _ _ _ _))
 have H3:=veil (And.intro (HS.out.call hb3) hb3)
 clear hF hM hP3 hp3 hm3 hb3 hO3 hg3 ha3 hc3 hbg3 HO HI HP HT
 go_upto_region 2 with (first
  | (go_at_call 120; refine HM.out.mono ?_; rintro e w4 ⟨rfl,hb4⟩)
  | ((with_reducible refine zbh ?_); refine wpList_store_mid rfl 26 _ _ rfl g 0 F rfl rfl (there_mid (o:=0) (H3.out.1.call hb4) (by rw [HF.out.1]; decide)) HF.out.2.2 HF.out.2.1 ?_))
 have hS5:=(H3.out.1.call hb4).putK HFF.out
 have hB5 : But g w (w4.setCells g 0 F.toList):=But.setCells _ _ _ (But.of_below (H3.out.2.trans (hb4.mono H3.out.2.size)))
 generalize w4.setCells g 0 F.toList = w5 at *
 have HQ:=veil (step_calls g (⟨nb s.k 32 (tx s.v b (textN L Y np)) (33 + lenN L np),s.v⟩ : KV) ⟨fun j => nb_lt _ _ _ _ j,HB.out.1.v⟩ w5 (HK.out.grown hB5 (Ne.symm HG.out)) hS5)
 have H5:=veil hB5
 clear hS5 hB5 hb4 H3 HM HF HFF
 go_wp2_with fail
 refine HQ.out.mono ?_
 rintro e w6 ⟨rfl,hS6,hB6⟩
 have H6:=veil (And.intro hS6 (H5.out.trans hB6))
 clear hS6 hB6 H5 HQ
 go_wp2
 go_end0
 exact ⟨rfl,H6.out.1,H6.out.2⟩
section
variable {P : Program} {ops : Array Oper} {o : Oper} {a : Act} {w : World}
theorem yif_load {ty : TypeId} {x : Operand} {g t : Nat} {C : Array Value} {fr : Nat × Nat} {d : TypeDesc} (hw : Region.wanted o (yielded ops a.tmps) = true) (ho : o.op = .load ty x) (hx : a.eval x = ptrTo g) (hb : w.heap[g]? = some (.cells C t fr))
  (hu : P.underlying ty = some d) (hd : d.isRow = true) (hi : (P.info? ty).map (·.size) = some C.size) : YieldsIf P ops (fun W => Ext w W) o (.agg C) a :=
 yieldsIf_load_mid hw ty x ho g 0 hx C.toList d (fun W hW j v hv => by rw [cell_of_row W g (0 + j) C t fr (hW.block hb),Nat.zero_add]; simpa using hv) hu hd (by simpa using hi)
end
theorem grow_calls (n : Nat) (h0 : 0 < n) (h1 : n ≤ 1048576) (w : World) :
  Calls Tryz.prog 92 #[.slice none 0 0,.int .i64 (n : Int)] w fun e w' => (∃ v,e = .returned v ∧ ∀ f,Own w' w.heap.size 5 v 0 f) ∧ Ext w w':=by
 obtain ⟨i8,hi8,hz0,hz1,hz2⟩:=info_parts infoByte
 have hr:=fun W => Lib.run_append_nil_zeros (P:=Tryz.prog) W 46 3 46 5 i8 (.int .u8 0) .i64 .i64 Tryz.underlying46 Tryz.underlying3 hi8 hz0 n h0 (by rw [hz1]; decide) (by omega) (by rw [hz2]; omega)
 have HR:=veil hr
 have hg:=grownCap_ge w n 0 5
 have hm:=grownCap_le_maxLen w n 0 5 (by unfold maxLen; omega)
 have HG:=veil (And.intro hg hm)
 have hi0 : (0 : Int) ≤ (n : Int):=by omega
 have hi1 : (0 : Int) < (n : Int):=by omega
 have hc0 : (0 : Int) ≤ (grownCap w n 0 5 : Int):=by omega
 clear hr hg hi8 hz0 hz1 hz2
 go_enter Tryz.func92,Tryz.ntmps92
 go_wp2_with (at_builtin; refine Lib.wpList_append_run _ rfl _ _ _ _ rfl _ _ rfl rfl _ _ (HR.out w) ?_)
 go_ret
 refine ⟨⟨_,rfl,fun f => ⟨by simp,.inr ⟨w.heap.size,_,_,rfl,Nat.le_refl _,zbv w.drew _,Nat.zero_le _,HG.out.2,?_,by simp⟩⟩⟩,(Ext.drew w).trans (Ext.alloc _ _)⟩
 have:=HG.out.1
 simp [size_zeroCells]
 omega
def catF (f1 f2 : Nat → Value) : Nat → Value:=fun j => if j < 32 then f1 j else f2 (j - 32)
theorem concat_calls (h g1 g2 c1 c2 : Nat) (f1 f2 : Nat → Value) (o1 : ∀ j,(f1 j).oneCell' = true) (o2 : ∀ j,(f2 j).oneCell' = true) (w : World)
  (hb : w.heap[h]? = some (.cells #[.slice (some ⟨g1,0,none⟩) 32 c1,.slice (some ⟨g2,0,none⟩) 32 c2] 46 (0,0))) (hg1 : w.rowIs g1 5 32 f1) (hg2 : w.rowIs g2 5 32 f2) :
  Calls Tryz.prog 43 #[.slice (some ⟨h,0,none⟩) 2 2] w fun e w' => (∃ v,e = .returned v ∧ Own w' w.heap.size 5 v 64 (catF f1 f2)) ∧ Ext w w':=by
 obtain ⟨i8,hi8,hz0,hz1,hz2⟩:=info_parts infoByte
 have HI:=veil (And.intro hi8 (And.intro hz0 (And.intro hz1 hz2)))
 clear hi8 hz0 hz1 hz2
 have c0 : w.cell? ⟨h,0,none⟩ = some (.slice (some ⟨g1,0,none⟩) 32 c1):=cell_of_row w h 0 _ _ _ hb
 have c1' : w.cell? ⟨h,1,none⟩ = some (.slice (some ⟨g2,0,none⟩) 32 c2):=cell_of_row w h 1 _ _ _ hb
 have HB:=veil hb
 have HG1:=veil hg1
 have HG2:=veil hg2
 clear hb hg1 hg2
 go_enter Tryz.func43,Tryz.ntmps43
 go_wp2
 go_loop [3,11] (fun v3 v11 => ∃ k : Nat,k ≤ 2 ∧ v11 = .int .i64 (k : Int) ∧ v3 = .int .i64 ((32 * k : Nat) : Int)) (fun _ v11 => (2 - intOf v11).toNat)
 case atStart => exact ⟨0,by omega,rfl,rfl⟩
 case round =>
  obtain ⟨k,hk,rfl,rfl⟩:=hrel
  have hk3 : k = 0 ∨ k = 1 ∨ k = 2:=by omega
  rcases hk3 with rfl | rfl | rfl
  ·
   go_wp2
   go_round
   case rel => exact ⟨1,by omega,by go_num,by go_num⟩
   case measure => simp [intOf]
  ·
   go_wp2
   go_round
   case rel => exact ⟨2,by omega,by go_num,by go_num⟩
   case measure => simp [intOf]
  ·
   have hgr:=fun W => grow_calls 64 (by decide) (by decide) W
   have HGR:=veil hgr
   clear hgr
   go_wp2_with fail
   refine (HGR.out _).mono ?_
   rintro e w1 ⟨⟨v,rfl,hown⟩,hE⟩
   have hown:=hown (catF f1 f2)
   have hx : Ext w w1:=hE
   clear hE
   clear c0 c1'
   go_wp2
   go_loopw [6,27] (fun v6 v27 wr => ∃ k : Nat,k ≤ 2 ∧ v27 = .int .i64 (k : Int) ∧ Own wr w.heap.size 5 v6 (32 * k) (catF f1 f2) ∧ Ext w wr) (fun _ v27 _ => (2 - intOf v27).toNat)
   case atStart => exact ⟨0,by omega,rfl,hown,hx⟩
   case round =>
    clear hown hx
    obtain ⟨k,hk,rfl,hown,hx⟩:=hrel
    have b0:=hx.block HB.out
    have r1:=Ext.row HG1.out hx
    have r2:=Ext.row HG2.out hx
    have hk3 : k = 0 ∨ k = 1 ∨ k = 2:=by omega
    rcases hk3 with rfl | rfl | rfl
    ·
     have c0 : wr.cell? ⟨h,0,none⟩ = some (.slice (some ⟨g1,0,none⟩) 32 c1):=cell_of_row wr h 0 _ _ _ b0
     have hfr : From wr (some ⟨g1,0,none⟩) 32 f1:=.inr ⟨_,rfl,fun j hj => by rw [Addr.add_mid,Nat.zero_add]; exact r1.cell hj⟩
     have HF:=veil hfr
     have HO:=veil hown
     clear hfr hown b0
     go_wp2_with (at_builtin; refine zau _ rfl _ _ _ rfl w.heap.size 5 i8 (.int .u8 0) 1 Tryz.underlying46 HI.out.1 HI.out.2.1 HI.out.2.2.1 HI.out.2.2.2 rfl _ _ _ rfl HO.out (some ⟨g1,0,none⟩) 32 c1 rfl f1 HF.out o1 (by unfold maxLen; omega) (by omega) (Below.size hx) ?_)
     intro v' w' hown' hgr hkey
     go_wp2
     go_roundw
     case rel => exact ⟨1,by omega,by go_num,hown'.congr (fun j hj => by
                                         have h3 : j < 32:=by omega
                                         simp [catF,h3]),zct hx hgr (Below.size hx) (fun k hk => (HO.out.lt hk).1)⟩
     case measure => simp [intOf]
    ·
     have c0 : wr.cell? ⟨h,1,none⟩ = some (.slice (some ⟨g2,0,none⟩) 32 c2):=cell_of_row wr h 1 _ _ _ b0
     have hfr : From wr (some ⟨g2,0,none⟩) 32 f2:=.inr ⟨_,rfl,fun j hj => by rw [Addr.add_mid,Nat.zero_add]; exact r2.cell hj⟩
     have HF:=veil hfr
     have HO:=veil hown
     clear hfr hown b0
     go_wp2_with (at_builtin; refine zau _ rfl _ _ _ rfl w.heap.size 5 i8 (.int .u8 0) 1 Tryz.underlying46 HI.out.1 HI.out.2.1 HI.out.2.2.1 HI.out.2.2.2 rfl _ _ _ rfl HO.out (some ⟨g2,0,none⟩) 32 c2 rfl f2 HF.out o2 (by unfold maxLen; omega) (by omega) (Below.size hx) ?_)
     intro v' w' hown' hgr hkey
     go_wp2
     go_roundw
     case rel => exact ⟨2,by omega,by go_num,hown'.congr (fun j hj => by
                                         simp only [catF]; by_cases h3 : j < 32
                                         ·
                                          simp [h3]
                                         ·
                                          simp [h3]),zct hx hgr (Below.size hx) (fun k hk => (HO.out.lt hk).1)⟩
     case measure => simp [intOf]
    ·
     go_wp2
     go_ret
     exact ⟨⟨_,rfl,hown⟩,hx⟩
def ptB (X Y j : Nat) : Value:=if j < 32 then bsv X j else bsv Y (j - 32)
end Go.Proofs.YtmfjigcdhijkjaaGreatDoor
namespace Go.Proofs.YtmfjigcdhijkjaaGreatDoor
theorem shaSt_same {b b' : Nat → Nat} {n : Nat} (h : ∀ i,i < n → b i = b' i) : shaSt b n = shaSt b' n:=by
 unfold shaSt
 refine zfv _ fun i _ => ?_
 unfold padded
 by_cases c : i < n
 ·
  rw [if_pos c,if_pos c,h i c]
 ·
  rw [if_neg c,if_neg c]
def sumL (l : List Nat) (n : Nat) : List Nat:=(List.range 32).map fun i => dByte (shaSt (fun j => l.getD j 0) n) i
theorem sumL_at (l : List Nat) (n : Nat) {j : Nat} (hj : j < 32) : (sumL l n).getD j 0 = dByte (shaSt (fun j => l.getD j 0) n) j:=by simp [sumL,List.getD,hj]
structure MacL (kL tL iL jL oL rL : List Nat) (m : Nat) : Prop where
 i : ((List.range 64).map fun j => kL.getD j 0 ^^^ 54) ++ tL = iL
 j : sumL iL (64 + m) = jL
 o : ((List.range 64).map fun j => kL.getD j 0 ^^^ 92) ++ jL = oL
 r : sumL oL 96 = rL
theorem kb_lit {k : Nat → Nat} {kL : List Nat} (hl : kL.length = 32) (hk : ∀ j,j < 32 → k j = kL.getD j 0) (j : Nat) (hj : j < 64) : kb k 32 j = kL.getD j 0:=by
 unfold kb
 rw [if_neg (by decide)]
 unfold upTo
 split
 ·
  exact hk j (by assumption)
 ·
  rw [List.getD_eq_getElem?_getD,List.getElem?_eq_none (by omega)]; rfl
theorem app_lit {l : List Nat} {x : Nat → Nat} {k : Nat → Nat} {c n m : Nat} (f : Nat → Nat) (hf : ∀ j,j < c → x j = f j) (hk : ∀ j,j < m → k j = l.getD j 0) (hn : n = c + m) : ∀ j,j < n → cat x c k j = (((List.range c).map f) ++ l).getD j 0:=fun j hj => by
 unfold cat
 by_cases h : j < c
 ·
  rw [if_pos h,hf j h,List.getD_eq_getElem?_getD,List.getElem?_append_left (by simpa using h)]
  simp [h]
 ·
  rw [if_neg h,hk _ (by omega),List.getD_eq_getElem?_getD,List.getD_eq_getElem?_getD,List.getElem?_append_right (by simpa using Nat.le_of_not_lt h)]
  simp
theorem nb_lit {k t : Nat → Nat} {m : Nat} {kL tL iL jL oL rL : List Nat} (hl : kL.length = 32) (hk : ∀ j,j < 32 → k j = kL.getD j 0) (ht : ∀ j,j < m → t j = tL.getD j 0) (h : MacL kL tL iL jL oL rL m) : ∀ j,j < 32 → nb k 32 t m j = rL.getD j 0:=fun j hj => by
 have h1 : ∀ i,i < 64 + m → macIn k 32 t i = iL.getD i 0:=fun i hi => by
  rw [← h.i]
  exact app_lit _ (fun j hj => by rw [kb_lit hl hk j hj]) ht rfl i hi
 have h2 : ∀ i,i < 32 → dByte (shaSt (macIn k 32 t) (64 + m)) i = jL.getD i 0:=fun i hi => by
  rw [shaSt_same h1,← h.j,sumL_at _ _ hi]
 have h3 : ∀ i,i < 96 → macOut k 32 t m i = oL.getD i 0:=fun i hi => by
  rw [← h.o]
  exact app_lit _ (fun j hj => by rw [kb_lit hl hk j hj]) h2 rfl i hi
 unfold nb
 rw [shaSt_same h3,← h.r,sumL_at _ _ hj]
theorem tx_lit {v t : Nat → Nat} {m b : Nat} {vL tL : List Nat} (hl : vL.length = 32) (hv : ∀ j,j < 32 → v j = vL.getD j 0) (ht : ∀ j,j < m → t j = tL.getD j 0) : ∀ j,j < 33 + m → tx v b t j = (vL ++ b :: tL).getD j 0:=fun j hj => by
 unfold tx cat
 by_cases h : j < 32
 ·
  rw [if_pos h,hv j h,List.getD_eq_getElem?_getD,List.getD_eq_getElem?_getD,List.getElem?_append_left (by omega)]
 ·
  rw [if_neg h,List.getD_eq_getElem?_getD,List.getElem?_append_right (by omega),hl]
  by_cases h2 : j - 32 < 1
  ·
   rw [if_pos h2,show j - 32 = 0 by omega]; rfl
  ·
   rw [if_neg h2,ht _ (by omega),List.getD_eq_getElem?_getD,show j - 32 = (j - 32 - 1) + 1 by omega]; simp
structure KVL (s : KV) (kL vL : List Nat) : Prop where
 k : ∀ j,j < 32 → s.k j = kL.getD j 0
 v : ∀ j,j < 32 → s.v j = vL.getD j 0
 kl : kL.length = 32
 vl : vL.length = 32
theorem KVL.mix {s : KV} {kL vL k2 v2 tL a b c d e f : List Nat} {t : Nat → Nat} {m x : Nat} (h : KVL s kL vL) (ht : ∀ j,j < m → t j = tL.getD j 0) (h1 : MacL kL (vL ++ x :: tL) a b c k2 (33 + m)) (h2 : MacL k2 vL d e f v2 32) : KVL (s.mix x t m) k2 v2:=by
 have hk : ∀ j,j < 32 → nb s.k 32 (tx s.v x t) (33 + m) j = k2.getD j 0:=nb_lit h.kl h.k (tx_lit h.vl h.v ht) h1
 have hkl : k2.length = 32:=by rw [← h1.r]; simp [sumL]
 exact ⟨hk,nb_lit hkl hk h.v h2,hkl,by rw [← h2.r]; simp [sumL]⟩
def exK0 : List Nat:=[0,0,0,0,0,0,0,0,0,0,0,0,0,0,0,0,0,0,0,0,0,0,0,0,0,0,0,0,0,0,0,0]
def exV0 : List Nat:=[1,1,1,1,1,1,1,1,1,1,1,1,1,1,1,1,1,1,1,1,1,1,1,1,1,1,1,1,1,1,1,1]
def exT : List Nat:=[201,175,169,216,69,186,117,22,107,92,33,87,103,177,214,147,78,80,195,219,54,232,155,18,123,138,98,43,18,15,103,33,175,43,219,225,170,155,110,193,226,173,225,214,148,244,31,199,26,131,29,2,104,233,137,21,98,17,61,138,98,173,209,191]
def exK1I : List Nat:=[54,54,54,54,54,54,54,54,54,54,54,54,54,54,54,54,54,54,54,54,54,54,54,54,54,54,54,54,54,54,54,54,54,54,54,54,54,54,54,54,54,54,54,54,54,54,54,54,54,54,54,54,54,54,54,54,54,54,54,54,54,54,54,54,1,1,1,1,1,1,1,1,1,1,1,1,1,1,1,1,1,1,1,1,1,1,1,1,1,1,1,1,1,1,1,1,0,201,175,169,216,69,186,117,22,107,92,33,87,103,177,214,147,78,80,195,219,54,232,155,18,123,138,98,43,18,15,103,33,175,43,219,225,170,155,110,193,226,173,225,214,148,244,31,199,26,131,29,2,104,233,137,21,98,17,61,138,98,173,209,191]
def exK1J : List Nat:=[125,230,0,215,33,227,144,105,112,79,21,150,126,237,140,79,30,0,233,186,253,177,107,176,159,35,154,203,177,114,169,7]
def exK1O : List Nat:=[92,92,92,92,92,92,92,92,92,92,92,92,92,92,92,92,92,92,92,92,92,92,92,92,92,92,92,92,92,92,92,92,92,92,92,92,92,92,92,92,92,92,92,92,92,92,92,92,92,92,92,92,92,92,92,92,92,92,92,92,92,92,92,92,125,230,0,215,33,227,144,105,112,79,21,150,126,237,140,79,30,0,233,186,253,177,107,176,159,35,154,203,177,114,169,7]
def exK1 : List Nat:=[18,45,177,222,152,218,228,223,163,63,45,168,233,132,148,200,11,255,128,123,71,159,215,146,97,179,126,37,242,103,238,88]
theorem exK1_mac : MacL exK0 (exV0 ++ 0 :: exT) exK1I exK1J exK1O exK1 97:=⟨by decide +kernel,by decide +kernel,by decide +kernel,by decide +kernel⟩
def exV1I : List Nat:=[36,27,135,232,174,236,210,233,149,9,27,158,223,178,162,254,61,201,182,77,113,169,225,164,87,133,72,19,196,81,216,110,54,54,54,54,54,54,54,54,54,54,54,54,54,54,54,54,54,54,54,54,54,54,54,54,54,54,54,54,54,54,54,54,1,1,1,1,1,1,1,1,1,1,1,1,1,1,1,1,1,1,1,1,1,1,1,1,1,1,1,1,1,1,1,1]
def exV1J : List Nat:=[88,16,220,226,184,65,116,76,208,1,60,178,211,216,27,220,151,159,225,50,22,231,99,163,96,8,16,198,57,219,248,69]
def exV1O : List Nat:=[78,113,237,130,196,134,184,131,255,99,113,244,181,216,200,148,87,163,220,39,27,195,139,206,61,239,34,121,174,59,178,4,92,92,92,92,92,92,92,92,92,92,92,92,92,92,92,92,92,92,92,92,92,92,92,92,92,92,92,92,92,92,92,92,88,16,220,226,184,65,116,76,208,1,60,178,211,216,27,220,151,159,225,50,22,231,99,163,96,8,16,198,57,219,248,69]
def exV1 : List Nat:=[201,148,120,3,167,71,252,96,194,53,53,253,204,19,181,202,86,107,72,34,28,166,125,73,100,210,45,170,72,39,88,68]
theorem exV1_mac : MacL exK1 (exV0) exV1I exV1J exV1O exV1 32:=⟨by decide +kernel,by decide +kernel,by decide +kernel,by decide +kernel⟩
def exK2I : List Nat:=[36,27,135,232,174,236,210,233,149,9,27,158,223,178,162,254,61,201,182,77,113,169,225,164,87,133,72,19,196,81,216,110,54,54,54,54,54,54,54,54,54,54,54,54,54,54,54,54,54,54,54,54,54,54,54,54,54,54,54,54,54,54,54,54,201,148,120,3,167,71,252,96,194,53,53,253,204,19,181,202,86,107,72,34,28,166,125,73,100,210,45,170,72,39,88,68,1,201,175,169,216,69,186,117,22,107,92,33,87,103,177,214,147,78,80,195,219,54,232,155,18,123,138,98,43,18,15,103,33,175,43,219,225,170,155,110,193,226,173,225,214,148,244,31,199,26,131,29,2,104,233,137,21,98,17,61,138,98,173,209,191]
def exK2J : List Nat:=[43,67,202,155,90,142,168,8,18,251,105,237,111,46,85,127,104,211,127,224,43,64,199,25,19,107,218,227,92,85,110,155]
def exK2O : List Nat:=[78,113,237,130,196,134,184,131,255,99,113,244,181,216,200,148,87,163,220,39,27,195,139,206,61,239,34,121,174,59,178,4,92,92,92,92,92,92,92,92,92,92,92,92,92,92,92,92,92,92,92,92,92,92,92,92,92,92,92,92,92,92,92,92,43,67,202,155,90,142,168,8,18,251,105,237,111,46,85,127,104,211,127,224,43,64,199,25,19,107,218,227,92,85,110,155]
def exK2 : List Nat:=[182,212,249,142,186,231,10,161,90,34,56,173,228,226,10,179,35,252,30,119,125,34,240,197,130,216,239,46,107,167,53,105]
theorem exK2_mac : MacL exK1 (exV1 ++ 1 :: exT) exK2I exK2J exK2O exK2 97:=⟨by decide +kernel,by decide +kernel,by decide +kernel,by decide +kernel⟩
def exV2I : List Nat:=[128,226,207,184,140,209,60,151,108,20,14,155,210,212,60,133,21,202,40,65,75,20,198,243,180,238,217,24,93,145,3,95,54,54,54,54,54,54,54,54,54,54,54,54,54,54,54,54,54,54,54,54,54,54,54,54,54,54,54,54,54,54,54,54,201,148,120,3,167,71,252,96,194,53,53,253,204,19,181,202,86,107,72,34,28,166,125,73,100,210,45,170,72,39,88,68]
def exV2J : List Nat:=[184,206,113,35,205,184,19,154,104,15,34,43,43,131,243,74,55,231,233,175,227,20,244,122,220,1,223,228,146,77,213,5]
def exV2O : List Nat:=[234,136,165,210,230,187,86,253,6,126,100,241,184,190,86,239,127,160,66,43,33,126,172,153,222,132,179,114,55,251,105,53,92,92,92,92,92,92,92,92,92,92,92,92,92,92,92,92,92,92,92,92,92,92,92,92,92,92,92,92,92,92,92,92,184,206,113,35,205,184,19,154,104,15,34,43,43,131,243,74,55,231,233,175,227,20,244,122,220,1,223,228,146,77,213,5]
def exV2 : List Nat:=[186,229,127,226,86,222,45,232,6,177,6,53,73,114,55,231,186,233,103,84,88,37,102,56,76,71,198,195,65,100,148,209]
theorem exV2_mac : MacL exK2 (exV1) exV2I exV2J exV2O exV2 32:=⟨by decide +kernel,by decide +kernel,by decide +kernel,by decide +kernel⟩
def exV3I : List Nat:=[128,226,207,184,140,209,60,151,108,20,14,155,210,212,60,133,21,202,40,65,75,20,198,243,180,238,217,24,93,145,3,95,54,54,54,54,54,54,54,54,54,54,54,54,54,54,54,54,54,54,54,54,54,54,54,54,54,54,54,54,54,54,54,54,186,229,127,226,86,222,45,232,6,177,6,53,73,114,55,231,186,233,103,84,88,37,102,56,76,71,198,195,65,100,148,209]
def exV3J : List Nat:=[220,7,25,109,50,98,156,228,4,109,141,115,212,90,239,255,19,109,209,10,88,242,183,100,111,68,181,82,25,151,55,12]
def exV3O : List Nat:=[234,136,165,210,230,187,86,253,6,126,100,241,184,190,86,239,127,160,66,43,33,126,172,153,222,132,179,114,55,251,105,53,92,92,92,92,92,92,92,92,92,92,92,92,92,92,92,92,92,92,92,92,92,92,92,92,92,92,92,92,92,92,92,92,220,7,25,109,50,98,156,228,4,109,141,115,212,90,239,255,19,109,209,10,88,242,183,100,111,68,181,82,25,151,55,12]
def exV3 : List Nat:=[166,227,197,125,208,26,190,144,8,101,56,57,131,85,221,76,59,23,170,135,51,130,176,242,77,97,41,73,61,138,173,96]
theorem exV3_mac : MacL exK2 (exV2) exV3I exV3J exV3O exV3 32:=⟨by decide +kernel,by decide +kernel,by decide +kernel,by decide +kernel⟩
def exD : Nat:=0xc9afa9d845ba75166b5c215767b1d6934e50c3db36e89b127b8a622b120f6721
def exM : Nat:=0xaf2bdbe1aa9b6ec1e2ade1d694f41fc71a831d0268e9891562113d8a62add1bf
def exX : Nat:=0xa6e3c57dd01abe90086538398355dd4c3b17aa873382b0f24d6129493d8aad60
def smpL : List Nat:=[115,97,109,112,108,101]
def smp : Nat → Nat:=fun j => smpL.getD j 0
def exH : Nat → Nat:=fun j => dByte (shaSt smp 6) j
def exHL : List Nat:=[175,43,219,225,170,155,110,193,226,173,225,214,148,244,31,199,26,131,29,2,104,233,137,21,98,17,61,138,98,173,209,191]
theorem exH_lt (j : Nat) : exH j < 256:=zgh _ j
theorem exH_lit : ∀ j,j < 32 → exH j = exHL.getD j 0:=fun j hj => by
 have h : sumL smpL 6 = exHL:=by decide +kernel
 rw [← h,sumL_at _ _ hj]; rfl
theorem zht {y y' : Nat → Nat} (h : ∀ j,j < 32 → y j = y' j) : num32 y = num32 y':=by
 unfold num32
 have : ∀ n,n ≤ 32 → lev (fun k => y (32 - 1 - k)) n = lev (fun k => y' (32 - 1 - k)) n:=by
  intro n
  induction n with
  | zero => intro _; rfl
  | succ n ih =>
   intro hn
   show lev _ n + _ = lev _ n + _
   rw [ih (by omega),show (fun k => y (32 - 1 - k)) n = (fun k => y' (32 - 1 - k)) n from h (32 - 1 - n) (by omega)]
 exact this 32 (Nat.le_refl _)
theorem ex_mod : num32 exH % Pt.nn = exM:=by
 rw [zht exH_lit]
 decide +kernel
theorem ex_two : ∀ j,j < 64 → two exD exM j = exT.getD j 0:=by
 have h : (List.range 64).all (fun j => two exD exM j == exT.getD j 0) = true:=by decide +kernel
 exact fun j hj => eq_of_beq (List.all_eq_true.1 h j (by simpa using hj))
theorem ex_kv0 : KVL kv0 exK0 exV0:=by
 have h : (List.range 32).all (fun j => exK0.getD j 0 == 0 && exV0.getD j 0 == 1) = true:=by decide +kernel
 refine ⟨fun j hj => ?_,fun j hj => ?_,rfl,rfl⟩
 ·
  have:=List.all_eq_true.1 h j (by simpa using hj)
  simp only [Bool.and_eq_true,beq_iff_eq] at this
  exact this.1.symm
 ·
  have:=List.all_eq_true.1 h j (by simpa using hj)
  simp only [Bool.and_eq_true,beq_iff_eq] at this
  exact this.2.symm
theorem ex_kvS : KVL (kvS exD exM) exK2 exV2:=(ex_kv0.mix ex_two exK1_mac exV1_mac).mix ex_two exK2_mac exV2_mac
theorem ex_num : numN exD exM 0 = exX:=by
 show num32 (nb (kvS exD exM).k 32 (kvS exD exM).v 32) = _
 rw [zht (nb_lit ex_kvS.kl ex_kvS.k ex_kvS.v exV3_mac)]
 decide +kernel
theorem ex_may : mayB exX = true:=by decide +kernel
theorem ex_mayD : mayB exD = true:=by decide +kernel
theorem ex_out : outN exD exM 1 = [exX]:=by
 show (if mayB (numN exD exM 0) = true then [] ++ [numN exD exM 0] else []) = _
 rw [ex_num,if_pos ex_may]; rfl
theorem ex_words : wd exD 0 = 8902035550577321761 ∧ wd exD 1 = 5643225679381699346 ∧ wd exD 2 = 7736094919201248915 ∧ wd exD 3 = 14533021268895757590:=by decide +kernel
end Go.Proofs.YtmfjigcdhijkjaaGreatDoor
namespace Go.Proofs.YtmfjigcdhijkjaaGreatDoor
theorem KVL.step {s : KV} {kL vL v1 a b c : List Nat} (h : KVL s kL vL) (h1 : MacL kL vL a b c v1 32) : KVL s.step kL v1 :=
 ⟨h.k,nb_lit h.kl h.k h.v h1,h.kl,by rw [← h1.r]; simp [sumL]⟩
theorem KVL.next {s : KV} {kL vL v1 k2 v2 a b c a2 b2 c2 a3 b3 c3 : List Nat} (h : KVL s kL vL) (h1 : MacL kL vL a b c v1 32) (h2 : MacL kL (v1 ++ 0 :: []) a2 b2 c2 k2 33) (h3 : MacL k2 v1 a3 b3 c3 v2 32) : KVL s.next k2 v2 :=
 (h.step h1).mix (t:=none0) (m:=0) (tL:=[]) (fun j hj => by omega) h2 h3
def fK0 : List Nat:=[182,212,249,142,186,231,10,161,90,34,56,173,228,226,10,179,35,252,30,119,125,34,240,197,130,216,239,46,107,167,53,105]
def fV0 : List Nat:=[186,229,127,226,86,222,45,232,6,177,6,53,73,114,55,231,186,233,103,84,88,37,102,56,76,71,198,195,65,100,148,209]
def fK1 : List Nat:=[5,255,120,171,204,74,213,112,214,35,246,96,21,19,60,166,37,137,207,96,62,122,203,246,173,187,251,171,155,153,43,213]
def fV1 : List Nat:=[71,57,202,239,199,194,204,141,220,223,227,63,194,183,250,126,17,23,226,234,40,151,67,115,169,169,31,150,34,109,67,216]
def fK2 : List Nat:=[39,126,217,228,138,185,238,61,12,73,21,126,31,97,206,51,105,0,165,100,226,112,54,130,39,157,142,222,234,185,152,180]
def fV2 : List Nat:=[206,6,113,23,3,255,116,84,91,193,142,38,83,219,137,97,41,202,155,101,11,78,182,113,197,187,139,86,143,94,161,64]
def fK3 : List Nat:=[113,182,232,71,38,136,22,217,27,215,252,77,157,150,231,19,235,32,54,229,28,223,210,26,165,8,97,123,21,203,36,87]
def fV3 : List Nat:=[15,172,7,65,221,150,125,224,83,250,144,145,245,239,191,138,143,231,211,95,68,9,194,183,118,100,126,181,117,252,77,214]
def fK4 : List Nat:=[170,234,211,117,255,167,71,128,82,106,229,125,112,235,141,189,239,194,7,235,245,198,125,20,11,114,38,184,240,7,56,18]
def fV4 : List Nat:=[76,60,103,92,159,69,180,224,190,144,4,234,79,2,33,32,180,60,165,235,184,125,179,148,102,241,108,153,133,131,10,235]
def fK5 : List Nat:=[238,123,184,197,194,198,219,13,27,217,87,20,245,160,247,165,176,207,90,166,81,107,139,92,138,104,242,150,173,84,228,93]
def fV5 : List Nat:=[137,44,136,1,70,193,225,24,168,80,220,117,133,29,213,167,228,164,88,65,127,228,75,6,220,3,32,159,149,26,16,143]
def fK6 : List Nat:=[8,91,201,18,159,128,77,206,197,18,158,181,57,29,47,154,46,106,179,54,96,168,132,181,57,89,59,169,231,228,149,86]
def fV6 : List Nat:=[201,91,193,240,229,76,111,111,238,154,184,233,227,66,185,14,89,42,172,64,25,160,209,224,41,128,103,183,162,223,210,203]
def fK7 : List Nat:=[68,255,254,19,135,44,131,238,90,54,115,175,181,174,145,196,23,50,24,203,20,149,5,59,54,67,167,49,56,98,21,198]
def fV7 : List Nat:=[158,186,88,224,74,17,156,194,170,5,233,22,116,154,72,237,46,146,118,165,56,23,230,74,146,255,47,49,128,140,40,157]
def fK8 : List Nat:=[127,196,86,152,18,222,14,103,63,87,146,150,112,63,224,147,204,210,219,72,37,56,242,77,8,50,73,102,212,185,96,127]
def fV8 : List Nat:=[141,191,108,229,63,250,117,232,41,186,92,14,115,82,203,192,45,134,177,147,52,243,255,212,60,1,84,209,141,53,103,165]
def fK9 : List Nat:=[136,201,228,3,118,40,108,22,177,240,178,52,242,193,243,165,136,170,1,1,92,183,201,14,158,166,94,42,118,3,253,63]
def fV9 : List Nat:=[201,27,191,69,242,28,189,115,237,223,175,182,164,22,247,248,2,135,27,23,29,174,162,67,84,76,85,251,32,29,242,127]
def fK10 : List Nat:=[7,8,25,25,174,234,36,51,200,150,207,160,77,214,159,83,99,82,9,37,183,99,59,239,51,111,184,93,184,177,174,144]
def fV10 : List Nat:=[31,150,27,29,196,180,13,87,31,184,237,105,104,7,6,57,1,61,245,11,87,22,109,28,61,120,145,212,118,211,244,114]
def fK11 : List Nat:=[241,122,160,144,173,179,129,86,246,146,245,37,228,203,185,212,164,152,242,3,182,4,197,89,61,170,187,96,9,153,64,223]
def fV11 : List Nat:=[3,1,187,86,138,56,57,193,214,139,110,181,208,202,113,71,59,171,211,97,183,190,229,202,57,45,101,164,242,223,55,63]
def fK12 : List Nat:=[157,128,122,92,116,13,175,10,176,91,239,191,157,71,245,129,231,164,36,40,7,205,40,250,174,131,237,7,17,83,41,251]
def fV12 : List Nat:=[34,101,76,176,41,125,102,173,146,10,207,91,195,194,203,179,187,232,37,10,232,0,128,110,84,104,26,165,239,119,238,154]
def fK13 : List Nat:=[21,208,128,155,174,200,174,210,80,192,92,72,242,232,54,19,167,215,214,132,227,23,145,125,152,158,164,201,15,178,75,121]
def fV13 : List Nat:=[122,246,227,133,89,222,17,11,190,147,251,153,162,41,192,51,137,154,130,201,30,234,183,20,110,203,186,68,212,169,136,57]
def fK14 : List Nat:=[171,104,195,191,198,50,104,88,43,96,245,53,128,243,218,30,190,8,46,181,20,193,224,124,70,240,171,71,106,205,218,114]
def fV14 : List Nat:=[236,87,199,26,146,98,243,115,109,231,90,23,147,163,250,172,148,2,94,162,74,57,205,80,72,91,216,208,140,5,133,224]
def fK15 : List Nat:=[13,211,207,254,132,202,125,46,96,131,195,206,138,223,117,55,127,201,187,83,228,38,35,170,22,95,215,160,17,78,120,207]
def fV15 : List Nat:=[43,169,164,202,33,134,77,133,246,232,240,33,100,46,116,99,97,199,235,135,197,60,50,166,63,53,26,22,69,110,185,38]
def fW0 : List Nat:=[166,227,197,125,208,26,190,144,8,101,56,57,131,85,221,76,59,23,170,135,51,130,176,242,77,97,41,73,61,138,173,96]
def fW1 : List Nat:=[142,131,220,73,11,197,252,77,89,146,189,99,205,135,242,84,173,255,203,147,15,138,128,17,112,42,136,135,15,99,143,219]
def fW2 : List Nat:=[123,141,201,173,140,225,89,171,202,27,153,21,252,20,112,233,29,90,210,68,59,48,50,85,126,120,244,126,24,10,183,2]
def fW3 : List Nat:=[12,33,97,115,10,112,34,125,165,92,125,22,223,27,110,19,2,231,81,186,176,202,247,35,255,131,15,123,166,10,48,173]
def fW4 : List Nat:=[222,187,134,199,207,230,122,222,34,231,123,159,20,40,95,129,156,100,216,177,84,245,172,119,135,49,185,30,120,92,175,124]
def fW5 : List Nat:=[145,102,69,251,2,69,111,189,217,173,19,109,218,121,215,164,171,204,176,171,167,30,239,15,11,53,76,10,27,230,233,56]
def fW6 : List Nat:=[14,111,224,46,1,243,175,206,227,224,10,165,199,195,250,77,187,231,250,237,226,13,145,220,143,4,11,234,114,47,80,170]
def fW7 : List Nat:=[27,68,46,64,221,148,132,172,140,162,245,174,55,146,22,145,14,80,117,196,90,171,223,99,235,249,138,64,193,42,78,113]
def fW8 : List Nat:=[98,79,89,169,246,223,44,9,42,211,128,1,37,186,112,9,160,191,126,240,210,81,154,251,250,236,54,211,113,169,252,135]
def fW9 : List Nat:=[36,37,208,64,22,209,221,27,86,102,67,117,209,162,71,40,151,23,161,111,233,8,25,75,2,164,119,225,93,85,194,96]
def fW10 : List Nat:=[135,49,246,101,62,185,73,250,55,228,116,41,253,3,201,55,154,157,21,115,218,195,155,252,202,224,85,227,125,81,32,85]
def fW11 : List Nat:=[18,136,110,59,26,16,119,137,250,105,132,115,19,42,136,5,147,71,120,0,115,87,155,110,248,88,196,255,46,35,25,212]
def fW12 : List Nat:=[12,186,188,67,110,4,140,93,195,130,50,98,227,143,254,159,250,33,150,197,83,173,222,33,57,181,40,130,76,123,242,233]
def fW13 : List Nat:=[26,172,244,70,25,115,125,214,30,76,48,30,182,25,143,152,105,134,191,192,59,106,180,119,66,209,179,29,233,157,189,73]
def fW14 : List Nat:=[47,104,217,20,198,251,74,167,167,206,9,53,87,124,242,110,30,207,240,226,191,40,3,160,193,206,226,53,146,195,60,80]
def fW15 : List Nat:=[97,185,168,100,125,240,135,158,78,228,126,111,61,36,119,103,217,105,199,73,213,245,16,17,111,45,106,22,78,247,181,216]
theorem fS : KVL (kvN exD exM 0) fK0 fV0:=ex_kvS
end Go.Proofs.YtmfjigcdhijkjaaGreatDoor
namespace Go.Proofs.YtmfjigcdhijkjaaGreatDoor
def fW0I : List Nat:=[128,226,207,184,140,209,60,151,108,20,14,155,210,212,60,133,21,202,40,65,75,20,198,243,180,238,217,24,93,145,3,95,54,54,54,54,54,54,54,54,54,54,54,54,54,54,54,54,54,54,54,54,54,54,54,54,54,54,54,54,54,54,54,54,186,229,127,226,86,222,45,232,6,177,6,53,73,114,55,231,186,233,103,84,88,37,102,56,76,71,198,195,65,100,148,209]
def fW0J : List Nat:=[220,7,25,109,50,98,156,228,4,109,141,115,212,90,239,255,19,109,209,10,88,242,183,100,111,68,181,82,25,151,55,12]
def fW0O : List Nat:=[234,136,165,210,230,187,86,253,6,126,100,241,184,190,86,239,127,160,66,43,33,126,172,153,222,132,179,114,55,251,105,53,92,92,92,92,92,92,92,92,92,92,92,92,92,92,92,92,92,92,92,92,92,92,92,92,92,92,92,92,92,92,92,92,220,7,25,109,50,98,156,228,4,109,141,115,212,90,239,255,19,109,209,10,88,242,183,100,111,68,181,82,25,151,55,12]
theorem fW0_mac : MacL fK0 (fV0) fW0I fW0J fW0O fW0 32:=⟨by decide +kernel,by decide +kernel,by decide +kernel,by decide +kernel⟩
def fK1I : List Nat:=[128,226,207,184,140,209,60,151,108,20,14,155,210,212,60,133,21,202,40,65,75,20,198,243,180,238,217,24,93,145,3,95,54,54,54,54,54,54,54,54,54,54,54,54,54,54,54,54,54,54,54,54,54,54,54,54,54,54,54,54,54,54,54,54,166,227,197,125,208,26,190,144,8,101,56,57,131,85,221,76,59,23,170,135,51,130,176,242,77,97,41,73,61,138,173,96,0]
def fK1J : List Nat:=[92,71,209,209,92,21,104,119,172,87,169,196,170,31,158,172,101,164,97,195,2,179,246,169,89,88,61,151,53,12,5,253]
def fK1O : List Nat:=[234,136,165,210,230,187,86,253,6,126,100,241,184,190,86,239,127,160,66,43,33,126,172,153,222,132,179,114,55,251,105,53,92,92,92,92,92,92,92,92,92,92,92,92,92,92,92,92,92,92,92,92,92,92,92,92,92,92,92,92,92,92,92,92,92,71,209,209,92,21,104,119,172,87,169,196,170,31,158,172,101,164,97,195,2,179,246,169,89,88,61,151,53,12,5,253]
theorem fK1_mac : MacL fK0 (fW0 ++ 0 :: []) fK1I fK1J fK1O fK1 33:=⟨by decide +kernel,by decide +kernel,by decide +kernel,by decide +kernel⟩
def fV1I : List Nat:=[51,201,78,157,250,124,227,70,224,21,192,86,35,37,10,144,19,191,249,86,8,76,253,192,155,141,205,157,173,175,29,227,54,54,54,54,54,54,54,54,54,54,54,54,54,54,54,54,54,54,54,54,54,54,54,54,54,54,54,54,54,54,54,54,166,227,197,125,208,26,190,144,8,101,56,57,131,85,221,76,59,23,170,135,51,130,176,242,77,97,41,73,61,138,173,96]
def fV1J : List Nat:=[190,105,91,6,144,161,169,142,124,104,72,150,56,56,121,200,113,26,236,221,101,220,219,64,66,2,141,215,155,106,216,179]
def fV1O : List Nat:=[89,163,36,247,144,22,137,44,138,127,170,60,73,79,96,250,121,213,147,60,98,38,151,170,241,231,167,247,199,197,119,137,92,92,92,92,92,92,92,92,92,92,92,92,92,92,92,92,92,92,92,92,92,92,92,92,92,92,92,92,92,92,92,92,190,105,91,6,144,161,169,142,124,104,72,150,56,56,121,200,113,26,236,221,101,220,219,64,66,2,141,215,155,106,216,179]
theorem fV1_mac : MacL fK1 (fW0) fV1I fV1J fV1O fV1 32:=⟨by decide +kernel,by decide +kernel,by decide +kernel,by decide +kernel⟩
theorem fmay0 : mayB (num32 (fun j => fW0.getD j 0)) = true:=by decide +kernel
def fW1I : List Nat:=[51,201,78,157,250,124,227,70,224,21,192,86,35,37,10,144,19,191,249,86,8,76,253,192,155,141,205,157,173,175,29,227,54,54,54,54,54,54,54,54,54,54,54,54,54,54,54,54,54,54,54,54,54,54,54,54,54,54,54,54,54,54,54,54,71,57,202,239,199,194,204,141,220,223,227,63,194,183,250,126,17,23,226,234,40,151,67,115,169,169,31,150,34,109,67,216]
def fW1J : List Nat:=[149,221,106,136,50,104,110,106,26,232,171,141,100,164,84,96,21,159,195,27,132,6,2,100,39,1,62,43,200,206,89,34]
def fW1O : List Nat:=[89,163,36,247,144,22,137,44,138,127,170,60,73,79,96,250,121,213,147,60,98,38,151,170,241,231,167,247,199,197,119,137,92,92,92,92,92,92,92,92,92,92,92,92,92,92,92,92,92,92,92,92,92,92,92,92,92,92,92,92,92,92,92,92,149,221,106,136,50,104,110,106,26,232,171,141,100,164,84,96,21,159,195,27,132,6,2,100,39,1,62,43,200,206,89,34]
theorem fW1_mac : MacL fK1 (fV1) fW1I fW1J fW1O fW1 32:=⟨by decide +kernel,by decide +kernel,by decide +kernel,by decide +kernel⟩
def fK2I : List Nat:=[51,201,78,157,250,124,227,70,224,21,192,86,35,37,10,144,19,191,249,86,8,76,253,192,155,141,205,157,173,175,29,227,54,54,54,54,54,54,54,54,54,54,54,54,54,54,54,54,54,54,54,54,54,54,54,54,54,54,54,54,54,54,54,54,142,131,220,73,11,197,252,77,89,146,189,99,205,135,242,84,173,255,203,147,15,138,128,17,112,42,136,135,15,99,143,219,0]
def fK2J : List Nat:=[154,24,153,107,55,220,147,41,70,176,17,111,87,74,131,16,199,217,105,253,171,225,14,184,100,126,109,104,233,89,226,244]
def fK2O : List Nat:=[89,163,36,247,144,22,137,44,138,127,170,60,73,79,96,250,121,213,147,60,98,38,151,170,241,231,167,247,199,197,119,137,92,92,92,92,92,92,92,92,92,92,92,92,92,92,92,92,92,92,92,92,92,92,92,92,92,92,92,92,92,92,92,92,154,24,153,107,55,220,147,41,70,176,17,111,87,74,131,16,199,217,105,253,171,225,14,184,100,126,109,104,233,89,226,244]
theorem fK2_mac : MacL fK1 (fW1 ++ 0 :: []) fK2I fK2J fK2O fK2 33:=⟨by decide +kernel,by decide +kernel,by decide +kernel,by decide +kernel⟩
def fV2I : List Nat:=[17,72,239,210,188,143,216,11,58,127,35,72,41,87,248,5,95,54,147,82,212,70,0,180,17,171,184,232,220,143,174,130,54,54,54,54,54,54,54,54,54,54,54,54,54,54,54,54,54,54,54,54,54,54,54,54,54,54,54,54,54,54,54,54,142,131,220,73,11,197,252,77,89,146,189,99,205,135,242,84,173,255,203,147,15,138,128,17,112,42,136,135,15,99,143,219]
def fV2J : List Nat:=[107,72,183,148,175,169,185,36,163,203,232,203,200,60,102,157,1,179,87,150,238,17,182,30,252,140,26,175,148,59,41,68]
def fV2O : List Nat:=[123,34,133,184,214,229,178,97,80,21,73,34,67,61,146,111,53,92,249,56,190,44,106,222,123,193,210,130,182,229,196,232,92,92,92,92,92,92,92,92,92,92,92,92,92,92,92,92,92,92,92,92,92,92,92,92,92,92,92,92,92,92,92,92,107,72,183,148,175,169,185,36,163,203,232,203,200,60,102,157,1,179,87,150,238,17,182,30,252,140,26,175,148,59,41,68]
theorem fV2_mac : MacL fK2 (fW1) fV2I fV2J fV2O fV2 32:=⟨by decide +kernel,by decide +kernel,by decide +kernel,by decide +kernel⟩
theorem fmay1 : mayB (num32 (fun j => fW1.getD j 0)) = true:=by decide +kernel
def fW2I : List Nat:=[17,72,239,210,188,143,216,11,58,127,35,72,41,87,248,5,95,54,147,82,212,70,0,180,17,171,184,232,220,143,174,130,54,54,54,54,54,54,54,54,54,54,54,54,54,54,54,54,54,54,54,54,54,54,54,54,54,54,54,54,54,54,54,54,206,6,113,23,3,255,116,84,91,193,142,38,83,219,137,97,41,202,155,101,11,78,182,113,197,187,139,86,143,94,161,64]
def fW2J : List Nat:=[9,58,142,75,5,82,3,231,93,250,22,92,235,215,152,248,143,231,178,50,225,201,167,26,99,110,83,73,73,240,228,137]
def fW2O : List Nat:=[123,34,133,184,214,229,178,97,80,21,73,34,67,61,146,111,53,92,249,56,190,44,106,222,123,193,210,130,182,229,196,232,92,92,92,92,92,92,92,92,92,92,92,92,92,92,92,92,92,92,92,92,92,92,92,92,92,92,92,92,92,92,92,92,9,58,142,75,5,82,3,231,93,250,22,92,235,215,152,248,143,231,178,50,225,201,167,26,99,110,83,73,73,240,228,137]
theorem fW2_mac : MacL fK2 (fV2) fW2I fW2J fW2O fW2 32:=⟨by decide +kernel,by decide +kernel,by decide +kernel,by decide +kernel⟩
def fK3I : List Nat:=[17,72,239,210,188,143,216,11,58,127,35,72,41,87,248,5,95,54,147,82,212,70,0,180,17,171,184,232,220,143,174,130,54,54,54,54,54,54,54,54,54,54,54,54,54,54,54,54,54,54,54,54,54,54,54,54,54,54,54,54,54,54,54,54,123,141,201,173,140,225,89,171,202,27,153,21,252,20,112,233,29,90,210,68,59,48,50,85,126,120,244,126,24,10,183,2,0]
def fK3J : List Nat:=[27,184,89,116,202,132,244,158,225,219,68,77,249,124,135,5,250,28,179,152,62,49,151,58,164,172,97,244,72,208,203,163]
def fK3O : List Nat:=[123,34,133,184,214,229,178,97,80,21,73,34,67,61,146,111,53,92,249,56,190,44,106,222,123,193,210,130,182,229,196,232,92,92,92,92,92,92,92,92,92,92,92,92,92,92,92,92,92,92,92,92,92,92,92,92,92,92,92,92,92,92,92,92,27,184,89,116,202,132,244,158,225,219,68,77,249,124,135,5,250,28,179,152,62,49,151,58,164,172,97,244,72,208,203,163]
theorem fK3_mac : MacL fK2 (fW2 ++ 0 :: []) fK3I fK3J fK3O fK3 33:=⟨by decide +kernel,by decide +kernel,by decide +kernel,by decide +kernel⟩
def fV3I : List Nat:=[71,128,222,113,16,190,32,239,45,225,202,123,171,160,209,37,221,22,0,211,42,233,228,44,147,62,87,77,35,253,18,97,54,54,54,54,54,54,54,54,54,54,54,54,54,54,54,54,54,54,54,54,54,54,54,54,54,54,54,54,54,54,54,54,123,141,201,173,140,225,89,171,202,27,153,21,252,20,112,233,29,90,210,68,59,48,50,85,126,120,244,126,24,10,183,2]
def fV3J : List Nat:=[203,249,141,129,158,123,81,222,203,202,49,26,103,183,237,164,157,109,17,39,71,94,92,136,252,99,196,135,222,26,202,150]
def fV3O : List Nat:=[45,234,180,27,122,212,74,133,71,139,160,17,193,202,187,79,183,124,106,185,64,131,142,70,249,84,61,39,73,151,120,11,92,92,92,92,92,92,92,92,92,92,92,92,92,92,92,92,92,92,92,92,92,92,92,92,92,92,92,92,92,92,92,92,203,249,141,129,158,123,81,222,203,202,49,26,103,183,237,164,157,109,17,39,71,94,92,136,252,99,196,135,222,26,202,150]
theorem fV3_mac : MacL fK3 (fW2) fV3I fV3J fV3O fV3 32:=⟨by decide +kernel,by decide +kernel,by decide +kernel,by decide +kernel⟩
theorem fmay2 : mayB (num32 (fun j => fW2.getD j 0)) = true:=by decide +kernel
def fW3I : List Nat:=[71,128,222,113,16,190,32,239,45,225,202,123,171,160,209,37,221,22,0,211,42,233,228,44,147,62,87,77,35,253,18,97,54,54,54,54,54,54,54,54,54,54,54,54,54,54,54,54,54,54,54,54,54,54,54,54,54,54,54,54,54,54,54,54,15,172,7,65,221,150,125,224,83,250,144,145,245,239,191,138,143,231,211,95,68,9,194,183,118,100,126,181,117,252,77,214]
def fW3J : List Nat:=[207,140,16,249,177,182,122,98,155,253,106,42,243,144,183,217,100,201,255,224,148,191,104,232,217,91,236,173,95,180,176,82]
def fW3O : List Nat:=[45,234,180,27,122,212,74,133,71,139,160,17,193,202,187,79,183,124,106,185,64,131,142,70,249,84,61,39,73,151,120,11,92,92,92,92,92,92,92,92,92,92,92,92,92,92,92,92,92,92,92,92,92,92,92,92,92,92,92,92,92,92,92,92,207,140,16,249,177,182,122,98,155,253,106,42,243,144,183,217,100,201,255,224,148,191,104,232,217,91,236,173,95,180,176,82]
theorem fW3_mac : MacL fK3 (fV3) fW3I fW3J fW3O fW3 32:=⟨by decide +kernel,by decide +kernel,by decide +kernel,by decide +kernel⟩
def fK4I : List Nat:=[71,128,222,113,16,190,32,239,45,225,202,123,171,160,209,37,221,22,0,211,42,233,228,44,147,62,87,77,35,253,18,97,54,54,54,54,54,54,54,54,54,54,54,54,54,54,54,54,54,54,54,54,54,54,54,54,54,54,54,54,54,54,54,54,12,33,97,115,10,112,34,125,165,92,125,22,223,27,110,19,2,231,81,186,176,202,247,35,255,131,15,123,166,10,48,173,0]
def fK4J : List Nat:=[63,155,215,21,129,111,145,21,251,94,156,37,51,138,57,245,112,0,10,66,126,48,7,166,188,16,59,76,149,67,88,130]
def fK4O : List Nat:=[45,234,180,27,122,212,74,133,71,139,160,17,193,202,187,79,183,124,106,185,64,131,142,70,249,84,61,39,73,151,120,11,92,92,92,92,92,92,92,92,92,92,92,92,92,92,92,92,92,92,92,92,92,92,92,92,92,92,92,92,92,92,92,92,63,155,215,21,129,111,145,21,251,94,156,37,51,138,57,245,112,0,10,66,126,48,7,166,188,16,59,76,149,67,88,130]
theorem fK4_mac : MacL fK3 (fW3 ++ 0 :: []) fK4I fK4J fK4O fK4 33:=⟨by decide +kernel,by decide +kernel,by decide +kernel,by decide +kernel⟩
def fV4I : List Nat:=[156,220,229,67,201,145,113,182,100,92,211,75,70,221,187,139,217,244,49,221,195,240,75,34,61,68,16,142,198,49,14,36,54,54,54,54,54,54,54,54,54,54,54,54,54,54,54,54,54,54,54,54,54,54,54,54,54,54,54,54,54,54,54,54,12,33,97,115,10,112,34,125,165,92,125,22,223,27,110,19,2,231,81,186,176,202,247,35,255,131,15,123,166,10,48,173]
def fV4J : List Nat:=[244,161,208,76,165,76,244,58,206,216,7,164,82,204,8,239,244,182,98,177,189,242,61,140,156,188,49,103,60,16,182,13]
def fV4O : List Nat:=[246,182,143,41,163,251,27,220,14,54,185,33,44,183,209,225,179,158,91,183,169,154,33,72,87,46,122,228,172,91,100,78,92,92,92,92,92,92,92,92,92,92,92,92,92,92,92,92,92,92,92,92,92,92,92,92,92,92,92,92,92,92,92,92,244,161,208,76,165,76,244,58,206,216,7,164,82,204,8,239,244,182,98,177,189,242,61,140,156,188,49,103,60,16,182,13]
theorem fV4_mac : MacL fK4 (fW3) fV4I fV4J fV4O fV4 32:=⟨by decide +kernel,by decide +kernel,by decide +kernel,by decide +kernel⟩
theorem fmay3 : mayB (num32 (fun j => fW3.getD j 0)) = true:=by decide +kernel
end Go.Proofs.YtmfjigcdhijkjaaGreatDoor
namespace Go.Proofs.YtmfjigcdhijkjaaGreatDoor
def fW4I : List Nat:=[156,220,229,67,201,145,113,182,100,92,211,75,70,221,187,139,217,244,49,221,195,240,75,34,61,68,16,142,198,49,14,36,54,54,54,54,54,54,54,54,54,54,54,54,54,54,54,54,54,54,54,54,54,54,54,54,54,54,54,54,54,54,54,54,76,60,103,92,159,69,180,224,190,144,4,234,79,2,33,32,180,60,165,235,184,125,179,148,102,241,108,153,133,131,10,235]
def fW4J : List Nat:=[194,43,167,158,245,177,139,28,130,131,149,210,166,127,123,254,79,101,40,243,7,31,248,213,133,82,230,167,198,143,221,189]
def fW4O : List Nat:=[246,182,143,41,163,251,27,220,14,54,185,33,44,183,209,225,179,158,91,183,169,154,33,72,87,46,122,228,172,91,100,78,92,92,92,92,92,92,92,92,92,92,92,92,92,92,92,92,92,92,92,92,92,92,92,92,92,92,92,92,92,92,92,92,194,43,167,158,245,177,139,28,130,131,149,210,166,127,123,254,79,101,40,243,7,31,248,213,133,82,230,167,198,143,221,189]
theorem fW4_mac : MacL fK4 (fV4) fW4I fW4J fW4O fW4 32:=⟨by decide +kernel,by decide +kernel,by decide +kernel,by decide +kernel⟩
def fK5I : List Nat:=[156,220,229,67,201,145,113,182,100,92,211,75,70,221,187,139,217,244,49,221,195,240,75,34,61,68,16,142,198,49,14,36,54,54,54,54,54,54,54,54,54,54,54,54,54,54,54,54,54,54,54,54,54,54,54,54,54,54,54,54,54,54,54,54,222,187,134,199,207,230,122,222,34,231,123,159,20,40,95,129,156,100,216,177,84,245,172,119,135,49,185,30,120,92,175,124,0]
def fK5J : List Nat:=[34,36,125,156,169,171,244,243,200,121,232,54,141,142,162,23,204,142,141,23,26,148,112,196,52,55,226,147,173,122,71,157]
def fK5O : List Nat:=[246,182,143,41,163,251,27,220,14,54,185,33,44,183,209,225,179,158,91,183,169,154,33,72,87,46,122,228,172,91,100,78,92,92,92,92,92,92,92,92,92,92,92,92,92,92,92,92,92,92,92,92,92,92,92,92,92,92,92,92,92,92,92,92,34,36,125,156,169,171,244,243,200,121,232,54,141,142,162,23,204,142,141,23,26,148,112,196,52,55,226,147,173,122,71,157]
theorem fK5_mac : MacL fK4 (fW4 ++ 0 :: []) fK5I fK5J fK5O fK5 33:=⟨by decide +kernel,by decide +kernel,by decide +kernel,by decide +kernel⟩
def fV5I : List Nat:=[216,77,142,243,244,240,237,59,45,239,97,34,195,150,193,147,134,249,108,144,103,93,189,106,188,94,196,160,155,98,210,107,54,54,54,54,54,54,54,54,54,54,54,54,54,54,54,54,54,54,54,54,54,54,54,54,54,54,54,54,54,54,54,54,222,187,134,199,207,230,122,222,34,231,123,159,20,40,95,129,156,100,216,177,84,245,172,119,135,49,185,30,120,92,175,124]
def fV5J : List Nat:=[226,215,227,56,165,147,205,157,157,138,143,73,127,214,199,215,82,114,90,117,116,72,251,70,53,39,207,143,147,19,53,62]
def fV5O : List Nat:=[178,39,228,153,158,154,135,81,71,133,11,72,169,252,171,249,236,147,6,250,13,55,215,0,214,52,174,202,241,8,184,1,92,92,92,92,92,92,92,92,92,92,92,92,92,92,92,92,92,92,92,92,92,92,92,92,92,92,92,92,92,92,92,92,226,215,227,56,165,147,205,157,157,138,143,73,127,214,199,215,82,114,90,117,116,72,251,70,53,39,207,143,147,19,53,62]
theorem fV5_mac : MacL fK5 (fW4) fV5I fV5J fV5O fV5 32:=⟨by decide +kernel,by decide +kernel,by decide +kernel,by decide +kernel⟩
theorem fmay4 : mayB (num32 (fun j => fW4.getD j 0)) = true:=by decide +kernel
def fW5I : List Nat:=[216,77,142,243,244,240,237,59,45,239,97,34,195,150,193,147,134,249,108,144,103,93,189,106,188,94,196,160,155,98,210,107,54,54,54,54,54,54,54,54,54,54,54,54,54,54,54,54,54,54,54,54,54,54,54,54,54,54,54,54,54,54,54,54,137,44,136,1,70,193,225,24,168,80,220,117,133,29,213,167,228,164,88,65,127,228,75,6,220,3,32,159,149,26,16,143]
def fW5J : List Nat:=[50,145,94,253,94,191,161,246,247,187,21,254,8,77,208,13,72,1,144,198,203,194,211,44,154,137,61,228,161,83,53,49]
def fW5O : List Nat:=[178,39,228,153,158,154,135,81,71,133,11,72,169,252,171,249,236,147,6,250,13,55,215,0,214,52,174,202,241,8,184,1,92,92,92,92,92,92,92,92,92,92,92,92,92,92,92,92,92,92,92,92,92,92,92,92,92,92,92,92,92,92,92,92,50,145,94,253,94,191,161,246,247,187,21,254,8,77,208,13,72,1,144,198,203,194,211,44,154,137,61,228,161,83,53,49]
theorem fW5_mac : MacL fK5 (fV5) fW5I fW5J fW5O fW5 32:=⟨by decide +kernel,by decide +kernel,by decide +kernel,by decide +kernel⟩
def fK6I : List Nat:=[216,77,142,243,244,240,237,59,45,239,97,34,195,150,193,147,134,249,108,144,103,93,189,106,188,94,196,160,155,98,210,107,54,54,54,54,54,54,54,54,54,54,54,54,54,54,54,54,54,54,54,54,54,54,54,54,54,54,54,54,54,54,54,54,145,102,69,251,2,69,111,189,217,173,19,109,218,121,215,164,171,204,176,171,167,30,239,15,11,53,76,10,27,230,233,56,0]
def fK6J : List Nat:=[106,13,149,128,114,251,197,51,35,243,228,136,209,155,121,96,232,241,42,4,119,179,250,219,174,46,50,240,95,139,247,186]
def fK6O : List Nat:=[178,39,228,153,158,154,135,81,71,133,11,72,169,252,171,249,236,147,6,250,13,55,215,0,214,52,174,202,241,8,184,1,92,92,92,92,92,92,92,92,92,92,92,92,92,92,92,92,92,92,92,92,92,92,92,92,92,92,92,92,92,92,92,92,106,13,149,128,114,251,197,51,35,243,228,136,209,155,121,96,232,241,42,4,119,179,250,219,174,46,50,240,95,139,247,186]
theorem fK6_mac : MacL fK5 (fW5 ++ 0 :: []) fK6I fK6J fK6O fK6 33:=⟨by decide +kernel,by decide +kernel,by decide +kernel,by decide +kernel⟩
def fV6I : List Nat:=[62,109,255,36,169,182,123,248,243,36,168,131,15,43,25,172,24,92,133,0,86,158,178,131,15,111,13,159,209,210,163,96,54,54,54,54,54,54,54,54,54,54,54,54,54,54,54,54,54,54,54,54,54,54,54,54,54,54,54,54,54,54,54,54,145,102,69,251,2,69,111,189,217,173,19,109,218,121,215,164,171,204,176,171,167,30,239,15,11,53,76,10,27,230,233,56]
def fV6J : List Nat:=[28,126,184,4,107,185,224,74,224,43,153,36,154,152,3,224,129,245,135,245,145,56,70,145,198,152,231,80,236,174,167,226]
def fV6O : List Nat:=[84,7,149,78,195,220,17,146,153,78,194,233,101,65,115,198,114,54,239,106,60,244,216,233,101,5,103,245,187,184,201,10,92,92,92,92,92,92,92,92,92,92,92,92,92,92,92,92,92,92,92,92,92,92,92,92,92,92,92,92,92,92,92,92,28,126,184,4,107,185,224,74,224,43,153,36,154,152,3,224,129,245,135,245,145,56,70,145,198,152,231,80,236,174,167,226]
theorem fV6_mac : MacL fK6 (fW5) fV6I fV6J fV6O fV6 32:=⟨by decide +kernel,by decide +kernel,by decide +kernel,by decide +kernel⟩
theorem fmay5 : mayB (num32 (fun j => fW5.getD j 0)) = true:=by decide +kernel
def fW6I : List Nat:=[62,109,255,36,169,182,123,248,243,36,168,131,15,43,25,172,24,92,133,0,86,158,178,131,15,111,13,159,209,210,163,96,54,54,54,54,54,54,54,54,54,54,54,54,54,54,54,54,54,54,54,54,54,54,54,54,54,54,54,54,54,54,54,54,201,91,193,240,229,76,111,111,238,154,184,233,227,66,185,14,89,42,172,64,25,160,209,224,41,128,103,183,162,223,210,203]
def fW6J : List Nat:=[210,36,189,211,7,254,246,45,21,57,139,23,69,165,125,220,86,101,230,224,96,177,34,218,233,211,66,212,6,175,148,209]
def fW6O : List Nat:=[84,7,149,78,195,220,17,146,153,78,194,233,101,65,115,198,114,54,239,106,60,244,216,233,101,5,103,245,187,184,201,10,92,92,92,92,92,92,92,92,92,92,92,92,92,92,92,92,92,92,92,92,92,92,92,92,92,92,92,92,92,92,92,92,210,36,189,211,7,254,246,45,21,57,139,23,69,165,125,220,86,101,230,224,96,177,34,218,233,211,66,212,6,175,148,209]
theorem fW6_mac : MacL fK6 (fV6) fW6I fW6J fW6O fW6 32:=⟨by decide +kernel,by decide +kernel,by decide +kernel,by decide +kernel⟩
def fK7I : List Nat:=[62,109,255,36,169,182,123,248,243,36,168,131,15,43,25,172,24,92,133,0,86,158,178,131,15,111,13,159,209,210,163,96,54,54,54,54,54,54,54,54,54,54,54,54,54,54,54,54,54,54,54,54,54,54,54,54,54,54,54,54,54,54,54,54,14,111,224,46,1,243,175,206,227,224,10,165,199,195,250,77,187,231,250,237,226,13,145,220,143,4,11,234,114,47,80,170,0]
def fK7J : List Nat:=[71,82,209,177,184,137,255,176,132,87,49,100,233,134,49,182,202,92,74,252,10,233,103,154,197,26,157,189,239,220,201,54]
def fK7O : List Nat:=[84,7,149,78,195,220,17,146,153,78,194,233,101,65,115,198,114,54,239,106,60,244,216,233,101,5,103,245,187,184,201,10,92,92,92,92,92,92,92,92,92,92,92,92,92,92,92,92,92,92,92,92,92,92,92,92,92,92,92,92,92,92,92,92,71,82,209,177,184,137,255,176,132,87,49,100,233,134,49,182,202,92,74,252,10,233,103,154,197,26,157,189,239,220,201,54]
theorem fK7_mac : MacL fK6 (fW6 ++ 0 :: []) fK7I fK7J fK7O fK7 33:=⟨by decide +kernel,by decide +kernel,by decide +kernel,by decide +kernel⟩
def fV7I : List Nat:=[114,201,200,37,177,26,181,216,108,0,69,153,131,152,167,242,33,4,46,253,34,163,51,13,0,117,145,7,14,84,35,240,54,54,54,54,54,54,54,54,54,54,54,54,54,54,54,54,54,54,54,54,54,54,54,54,54,54,54,54,54,54,54,54,14,111,224,46,1,243,175,206,227,224,10,165,199,195,250,77,187,231,250,237,226,13,145,220,143,4,11,234,114,47,80,170]
def fV7J : List Nat:=[191,134,68,137,203,26,97,86,207,6,7,214,222,78,128,244,218,195,88,217,3,135,2,220,71,208,249,135,233,7,226,154]
def fV7O : List Nat:=[24,163,162,79,219,112,223,178,6,106,47,243,233,242,205,152,75,110,68,151,72,201,89,103,106,31,251,109,100,62,73,154,92,92,92,92,92,92,92,92,92,92,92,92,92,92,92,92,92,92,92,92,92,92,92,92,92,92,92,92,92,92,92,92,191,134,68,137,203,26,97,86,207,6,7,214,222,78,128,244,218,195,88,217,3,135,2,220,71,208,249,135,233,7,226,154]
theorem fV7_mac : MacL fK7 (fW6) fV7I fV7J fV7O fV7 32:=⟨by decide +kernel,by decide +kernel,by decide +kernel,by decide +kernel⟩
theorem fmay6 : mayB (num32 (fun j => fW6.getD j 0)) = true:=by decide +kernel
def fW7I : List Nat:=[114,201,200,37,177,26,181,216,108,0,69,153,131,152,167,242,33,4,46,253,34,163,51,13,0,117,145,7,14,84,35,240,54,54,54,54,54,54,54,54,54,54,54,54,54,54,54,54,54,54,54,54,54,54,54,54,54,54,54,54,54,54,54,54,158,186,88,224,74,17,156,194,170,5,233,22,116,154,72,237,46,146,118,165,56,23,230,74,146,255,47,49,128,140,40,157]
def fW7J : List Nat:=[198,99,12,46,162,88,131,166,2,218,11,120,115,62,22,212,34,115,193,117,79,183,252,88,33,64,17,191,231,122,154,210]
def fW7O : List Nat:=[24,163,162,79,219,112,223,178,6,106,47,243,233,242,205,152,75,110,68,151,72,201,89,103,106,31,251,109,100,62,73,154,92,92,92,92,92,92,92,92,92,92,92,92,92,92,92,92,92,92,92,92,92,92,92,92,92,92,92,92,92,92,92,92,198,99,12,46,162,88,131,166,2,218,11,120,115,62,22,212,34,115,193,117,79,183,252,88,33,64,17,191,231,122,154,210]
theorem fW7_mac : MacL fK7 (fV7) fW7I fW7J fW7O fW7 32:=⟨by decide +kernel,by decide +kernel,by decide +kernel,by decide +kernel⟩
def fK8I : List Nat:=[114,201,200,37,177,26,181,216,108,0,69,153,131,152,167,242,33,4,46,253,34,163,51,13,0,117,145,7,14,84,35,240,54,54,54,54,54,54,54,54,54,54,54,54,54,54,54,54,54,54,54,54,54,54,54,54,54,54,54,54,54,54,54,54,27,68,46,64,221,148,132,172,140,162,245,174,55,146,22,145,14,80,117,196,90,171,223,99,235,249,138,64,193,42,78,113,0]
def fK8J : List Nat:=[187,60,189,208,145,141,74,16,224,57,46,52,230,15,194,208,195,73,101,135,160,202,143,32,171,63,73,119,0,102,236,192]
def fK8O : List Nat:=[24,163,162,79,219,112,223,178,6,106,47,243,233,242,205,152,75,110,68,151,72,201,89,103,106,31,251,109,100,62,73,154,92,92,92,92,92,92,92,92,92,92,92,92,92,92,92,92,92,92,92,92,92,92,92,92,92,92,92,92,92,92,92,92,187,60,189,208,145,141,74,16,224,57,46,52,230,15,194,208,195,73,101,135,160,202,143,32,171,63,73,119,0,102,236,192]
theorem fK8_mac : MacL fK7 (fW7 ++ 0 :: []) fK8I fK8J fK8O fK8 33:=⟨by decide +kernel,by decide +kernel,by decide +kernel,by decide +kernel⟩
def fV8I : List Nat:=[73,242,96,174,36,232,56,81,9,97,164,160,70,9,214,165,250,228,237,126,19,14,196,123,62,4,127,80,226,143,86,73,54,54,54,54,54,54,54,54,54,54,54,54,54,54,54,54,54,54,54,54,54,54,54,54,54,54,54,54,54,54,54,54,27,68,46,64,221,148,132,172,140,162,245,174,55,146,22,145,14,80,117,196,90,171,223,99,235,249,138,64,193,42,78,113]
def fV8J : List Nat:=[219,45,5,110,186,22,94,39,19,16,32,176,201,21,216,81,23,243,79,35,126,228,220,29,134,224,157,220,56,147,70,84]
def fV8O : List Nat:=[35,152,10,196,78,130,82,59,99,11,206,202,44,99,188,207,144,142,135,20,121,100,174,17,84,110,21,58,136,229,60,35,92,92,92,92,92,92,92,92,92,92,92,92,92,92,92,92,92,92,92,92,92,92,92,92,92,92,92,92,92,92,92,92,219,45,5,110,186,22,94,39,19,16,32,176,201,21,216,81,23,243,79,35,126,228,220,29,134,224,157,220,56,147,70,84]
theorem fV8_mac : MacL fK8 (fW7) fV8I fV8J fV8O fV8 32:=⟨by decide +kernel,by decide +kernel,by decide +kernel,by decide +kernel⟩
theorem fmay7 : mayB (num32 (fun j => fW7.getD j 0)) = true:=by decide +kernel
end Go.Proofs.YtmfjigcdhijkjaaGreatDoor
