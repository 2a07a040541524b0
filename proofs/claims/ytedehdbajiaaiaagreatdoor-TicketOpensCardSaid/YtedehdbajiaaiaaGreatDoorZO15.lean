/-
  Of FMath FBase Mul64 MulMath Q13 Made3 ArgB FrameN QArg KM TF TG TH.
-/
import Derived.Test.YtedehdbajiaaiaaGreatDoorRows
import Derived.WalkKit
import Derived.WalkSpells
import Derived.WalkLawsBesides
import Derived.Deep.LoopGhost
import Derived.Deep.RegionWith
import Derived.Deep.RegionHeld3
import Derived.Deep.QuietTactic
import Derived.BigQuiet
import Derived.Lib.SmallJoins
import Derived.ChangeSlices
import Derived.Carry
import Derived.BigFrame
import Derived.ProofKit
import Derived.Laws.IdiomArrays
import Derived.Deep.Strs
import Derived.Test.YtedehdbajiaaiaaGreatDoorZO1
import Derived.Test.YtedehdbajiaaiaaGreatDoorZO4
import Derived.Test.YtedehdbajiaaiaaGreatDoorZO2
import Derived.Test.YtedehdbajiaaiaaGreatDoorZO10
import Derived.Test.YtedehdbajiaaiaaGreatDoorZO12
import Derived.Test.YtedehdbajiaaiaaGreatDoorZO8
import Derived.Test.YtedehdbajiaaiaaGreatDoorZO6
import Derived.Test.YtedehdbajiaaiaaGreatDoorZO3
set_option maxRecDepth 1000000
set_option maxHeartbeats 20000000
namespace Go.Proofs.YtedehdbajiaaiaaGreatDoor
def top8 : Nat:=w64 ^ 8
theorem zjw : top8 = top * top:=by unfold top8 top; rw [← Nat.pow_add]
theorem zjt : w64 = 18446744073709551616:=rfl
theorem div_succ' (B n i : Nat) : n / B ^ (i + 1) = n / B ^ i / B:=by rw [Nat.pow_succ,Nat.div_div_eq_div_mul]
theorem setw {B : Nat} (hB : 0 < B) (Z k n v : Nat) (hk : k < n) (hZ : Z < B ^ n) (hv : v < B) :
  ∃ Z',Z' < B ^ n ∧ (∀ m,dg B Z' m = if m = k then v else dg B Z m) ∧ Z' + B ^ k * dg B Z k = Z + B ^ k * v:=by
 have hP : 0 < B ^ k:=Nat.pow_pos hB
 have e1 : B ^ k * (Z / B ^ k) + Z % B ^ k = Z:=Nat.div_add_mod _ _
 have e2 : B * (Z / B ^ k / B) + Z / B ^ k % B = Z / B ^ k:=Nat.div_add_mod _ _
 have hr:=Nat.mod_lt Z hP
 have hq : Z / B ^ k / B < B ^ (n - (k + 1)):=by
  rw [← div_succ',Nat.div_lt_iff_lt_mul (Nat.pow_pos hB),← Nat.pow_add,show n - (k + 1) + (k + 1) = n by omega]; exact hZ
 have hn : B ^ n = B ^ k * (B * B ^ (n - (k + 1))):=by
  rw [← Nat.mul_assoc,← Nat.pow_succ,← Nat.pow_add]; congr 1; omega
 have hd : dg B Z k = Z / B ^ k % B:=rfl
 have hdm : ∀ j,dg B Z (k + 1 + j) = Z / B ^ k / B / B ^ j % B:=by
  intro j; unfold dg; rw [Nat.pow_add,← Nat.div_div_eq_div_mul,div_succ']
 have hlo : ∀ j,j < k → dg B Z j = dg B (Z % B ^ k) j:=fun j hj => (zdt Z k j hj).symm
 rw [hd,hn]
 clear hd hn hZ
 generalize Z / B ^ k / B = q at *
 generalize Z / B ^ k % B = d at *
 generalize Z / B ^ k = a at *
 generalize Z % B ^ k = r at *
 have hz : r + B ^ k * (v + B * q) = r + B ^ k * v + B ^ k * (B * q):=by rw [Nat.mul_add,Nat.add_assoc]
 refine ⟨r + B ^ k * (v + B * q),?_,?_,?_⟩
 ·
  have : v + B * q + 1 ≤ B * B ^ (n - (k + 1)):=by
   have : B * (q + 1) ≤ B * B ^ (n - (k + 1)):=Nat.mul_le_mul_left _ hq
   rw [Nat.mul_add] at this; omega
  have:=Nat.mul_le_mul_left (B ^ k) this
  rw [Nat.mul_add] at this; omega
 ·
  have hdiv : (r + B ^ k * (v + B * q)) / B ^ k = v + B * q:=by
   rw [Nat.add_mul_div_left _ _ hP,Nat.div_eq_of_lt hr,Nat.zero_add]
  intro m
  by_cases h : m = k
  ·
   rw [if_pos h,h]
   unfold dg
   rw [hdiv,Nat.add_mul_mod_self_left,Nat.mod_eq_of_lt hv]
  ·
   rw [if_neg h]
   by_cases hlt : m < k
   ·
    rw [← zdt _ k m hlt,Nat.add_mul_mod_self_left,Nat.mod_eq_of_lt hr,hlo m hlt]
   ·
    obtain ⟨j,rfl⟩ : ∃ j,m = k + 1 + j:=⟨m - (k + 1),by omega⟩
    rw [hdm]
    unfold dg
    rw [Nat.pow_add,← Nat.div_div_eq_div_mul,div_succ',hdiv,Nat.add_mul_div_left _ _ hB,Nat.div_eq_of_lt hv,Nat.zero_add]
 ·
  rw [hz,← e1,← e2,Nat.mul_add]
  omega
theorem setwd (Z k : Nat) (v : Int) (hk : k < 8) (hZ : Z < top8) (h0 : 0 ≤ v) (h1 : v ≤ 18446744073709551615) :
  ∃ Z',Z' < top8 ∧ (∀ m,wd Z' m = if m = k then v else wd Z m) ∧ Z' + w64 ^ k * dg w64 Z k = Z + w64 ^ k * v.toNat:=by
 obtain ⟨Z',a,b,c⟩:=setw zbe Z k 8 v.toNat hk hZ (by unfold w64; omega)
 refine ⟨Z',a,fun m => ?_,c⟩
 unfold wd
 rw [b m]
 split
 ·
  omega
 ·
  rfl
theorem col_step {B Z Z' Z0 t m c c' x i j M : Nat} (hM : m = dg B M j) (e : Z + c * B ^ (i + j) = Z0 + t * (M % B ^ j) * B ^ i)
  (hx : x + B * c' = t * m + c + dg B Z (i + j)) (hZ : Z' + B ^ (i + j) * dg B Z (i + j) = Z + B ^ (i + j) * x) :
  Z' + c' * B ^ (i + (j + 1)) = Z0 + t * (M % B ^ (j + 1)) * B ^ i:=by
 rw [zcq,← hM,← Nat.add_assoc i j 1,Nat.pow_succ B (i + j)]
 have h1 : t * (M % B ^ j + B ^ j * m) * B ^ i = t * (M % B ^ j) * B ^ i + B ^ (i + j) * (t * m):=by
  rw [Nat.mul_add,Nat.add_mul,Nat.pow_add]
  congr 1
  rw [Nat.mul_left_comm t,Nat.mul_comm (B ^ i),Nat.mul_comm (B ^ j * B ^ i),Nat.mul_comm (B ^ j),Nat.mul_assoc]
 have h2:=congrArg (fun z => B ^ (i + j) * z) hx
 simp only [Nat.mul_add] at h2
 rw [h1]
 have h3 : c' * (B ^ (i + j) * B) = B ^ (i + j) * (B * c'):=by rw [Nat.mul_comm c',Nat.mul_assoc]
 rw [h3]
 rw [Nat.mul_comm c] at e
 generalize B ^ (i + j) * (B * c') = p1 at *
 generalize B ^ (i + j) * (t * m) = p2 at *
 generalize B ^ (i + j) * c = p3 at *
 generalize B ^ (i + j) * dg B Z (i + j) = p4 at *
 generalize B ^ (i + j) * x = p5 at *
 omega
theorem low_dvd {B Z : Nat} {k : Nat} (h : Z % B ^ k = 0) : Z = B ^ k * (Z / B ^ k):=by
 have:=Nat.div_add_mod Z (B ^ k); omega
theorem row_done {B X M Z Z1 Z2 T t c o o' x k : Nat} (hlow : Z % B ^ k = 0) (hT : T < B ^ k) (ht : t < B) (hM : M < B ^ 4) (e : Z + o * B ^ (k + 4) = X + T * M)
  (ht0 : (dg B Z k + t * dg B M 0) % B = 0) (h1 : Z1 + c * B ^ (k + 4) = Z + t * (M % B ^ 4) * B ^ k) (hx : x + B * o' = dg B Z1 (k + 4) + c + o)
  (h2 : Z2 + B ^ (k + 4) * dg B Z1 (k + 4) = Z1 + B ^ (k + 4) * x) :
  Z2 % B ^ (k + 1) = 0 ∧ T + B ^ k * t < B ^ (k + 1) ∧ Z2 + o' * B ^ (k + 1 + 4) = X + (T + B ^ k * t) * M:=by
 have hz:=low_dvd hlow
 rw [Nat.mod_eq_of_lt hM] at h1
 have hp5 : B ^ (k + 1 + 4) = B ^ (k + 4) * B:=by rw [← Nat.pow_succ,show k + 1 + 4 = k + 4 + 1 by omega]
 have hq : B ^ (k + 4) = B ^ (k + 1) * B ^ 3:=by rw [← Nat.pow_add,show k + 1 + 3 = k + 4 by omega]
 have f : Z2 + o' * B ^ (k + 1 + 4) = Z + t * M * B ^ k + o * B ^ (k + 4):=by
  have h3:=congrArg (fun z => B ^ (k + 4) * z) hx
  simp only [Nat.mul_add] at h3
  rw [hp5,Nat.mul_comm o',Nat.mul_assoc (B ^ (k + 4)),Nat.mul_comm o]
  rw [Nat.mul_comm c] at h1
  generalize B ^ (k + 4) * dg B Z1 (k + 4) = p1 at *
  generalize B ^ (k + 4) * x = p2 at *
  generalize B ^ (k + 4) * c = p3 at *
  generalize B ^ (k + 4) * o = p4 at *
  generalize B ^ (k + 4) * (B * o') = p5 at *
  omega
 refine ⟨?_,?_,?_⟩
 ·
  have g : (Z2 + o' * B ^ (k + 1 + 4)) % B ^ (k + 1) = Z2 % B ^ (k + 1):=by
   rw [hp5,hq,Nat.mul_comm o',Nat.mul_assoc,Nat.mul_assoc,Nat.add_mul_mod_self_left]
  rw [← g,f,hq,Nat.mul_comm o,Nat.mul_assoc (B ^ (k + 1)),Nat.add_mul_mod_self_left]
  have hd : (Z / B ^ k + t * M) % B = 0:=by
   have : dg B Z k = Z / B ^ k % B:=rfl
   rw [this] at ht0
   have h0 : dg B M 0 = M % B:=by unfold dg; rw [Nat.pow_zero,Nat.div_one]
   rw [h0,Nat.mod_add_mod,Nat.add_mod,Nat.mul_mod,Nat.mod_mod,← Nat.mul_mod,← Nat.add_mod] at ht0
   exact ht0
  rw [hz,Nat.mul_comm (t * M),← Nat.mul_add,Nat.pow_succ,Nat.mul_mod_mul_left,hd,Nat.mul_zero]
 ·
  rw [Nat.pow_succ]
  have : B ^ k * (t + 1) ≤ B ^ k * B:=Nat.mul_le_mul_left _ ht
  rw [Nat.mul_add] at this; omega
 ·
  rw [f,Nat.add_mul,Nat.mul_right_comm t M,Nat.mul_comm (B ^ k) t]
  generalize t * B ^ k * M = p3 at *
  generalize o * B ^ (k + 4) = p1 at *
  generalize T * M = p2 at *
  omega
theorem times_zero {d n m : Int} (h : (18446744073709551616 : Int) ∣ m * n - 1) :
  (d + (-d % 18446744073709551616 * n) % 18446744073709551616 * m) % 18446744073709551616 = 0:=by
 have e1:=Int.emod_add_mul_ediv (-d) 18446744073709551616
 have e2:=Int.emod_add_mul_ediv (-d % 18446744073709551616 * n) 18446744073709551616
 generalize -d % 18446744073709551616 * n / 18446744073709551616 = q2 at *
 generalize -d % 18446744073709551616 * n % 18446744073709551616 = t at *
 generalize -d / 18446744073709551616 = q1 at *
 generalize -d % 18446744073709551616 = s at *
 obtain ⟨c,hc⟩:=h
 apply Int.emod_eq_zero_of_dvd
 refine ⟨-d * c - q1 * n * m - q2 * m,?_⟩
 have et : t = s * n - 18446744073709551616 * q2:=by omega
 have es : s = -d - 18446744073709551616 * q1:=by omega
 have hmn : m * n = 18446744073709551616 * c + 1:=by omega
 rw [et,es]
 have : (-d - 18446744073709551616 * q1) * n * m = (-d - 18446744073709551616 * q1) * (m * n):=by rw [Int.mul_assoc,Int.mul_comm n]
 simp only [Int.sub_mul,Int.mul_sub,Int.neg_mul,Int.mul_assoc] at *
 rw [Int.mul_comm n m,hmn]
 simp only [Int.mul_add,Int.mul_one]
 have e3 : d * (18446744073709551616 * c) = 18446744073709551616 * (d * c):=by rw [Int.mul_left_comm]
 rw [e3]
 have e4 : q1 * (18446744073709551616 * c) = 18446744073709551616 * (q1 * c):=by rw [Int.mul_left_comm]
 rw [e4]
 omega
/-! ### Newton's steps -/
theorem newton {D E m x : Int} (h : D ∣ m * x - 1) (hE : E ∣ D * D) (hW : E ∣ 18446744073709551616) :
  E ∣ m * (x * ((2 - m * x % 18446744073709551616) % 18446744073709551616) % 18446744073709551616) - 1:=by
 obtain ⟨a,ha⟩:=h
 have e1:=Int.emod_add_mul_ediv (m * x) 18446744073709551616
 have e2:=Int.emod_add_mul_ediv (2 - m * x % 18446744073709551616) 18446744073709551616
 have e3:=Int.emod_add_mul_ediv (x * ((2 - m * x % 18446744073709551616) % 18446744073709551616)) 18446744073709551616
 generalize x * ((2 - m * x % 18446744073709551616) % 18446744073709551616) / 18446744073709551616 = q3 at *
 generalize x * ((2 - m * x % 18446744073709551616) % 18446744073709551616) % 18446744073709551616 = t3 at *
 generalize (2 - m * x % 18446744073709551616) / 18446744073709551616 = q2 at *
 generalize (2 - m * x % 18446744073709551616) % 18446744073709551616 = t2 at *
 generalize m * x / 18446744073709551616 = q1 at *
 generalize m * x % 18446744073709551616 = t1 at *
 -- m x = 1 + D a; t2 = 2 - m x + W (q1 - q2); t3 = x t2 - W q3
 have h3 : t3 = x * t2 - 18446744073709551616 * q3:=by omega
 have h2 : t2 = 2 - m * x + 18446744073709551616 * (q1 - q2):=by omega
 have hk : m * t3 - 1 = -(D * D) * (a * a) + 18446744073709551616 * (m * x * (q1 - q2) - m * q3):=by
  rw [h3,h2]
  have hx : m * x = 1 + D * a:=by omega
  rw [Int.mul_sub,← Int.mul_assoc,Int.mul_add,hx,Int.mul_left_comm m,Int.mul_left_comm (1 + D * a) 18446744073709551616]
  have : (1 + D * a) * (2 - (1 + D * a)) = 1 - D * D * (a * a):=by
   rw [show (2 : Int) - (1 + D * a) = 1 - D * a by omega,Int.mul_sub,Int.mul_one,Int.add_mul,Int.one_mul]
   have : D * a * (D * a) = D * D * (a * a):=by rw [Int.mul_assoc,Int.mul_left_comm a,Int.mul_assoc]
   omega
  rw [this,Int.neg_mul,Int.mul_sub]
  omega
 rw [hk]
 exact Int.dvd_add (Int.dvd_trans (Int.dvd_neg.2 hE) (Int.dvd_mul_right _ _)) (Int.dvd_trans hW (Int.dvd_mul_right _ _))
def dv (k : Nat) : Int:=match k with | 0 => 8 | 1 => 64 | 2 => 4096 | 3 => 16777216 | 4 => 281474976710656 | _ => 18446744073709551616
theorem dv_start {m : Int} (h : m % 2 = 1) : dv 0 ∣ m * m - 1:=by
 show (8 : Int) ∣ m * m - 1
 obtain ⟨a,b,ha,hb⟩ : ∃ a b : Int,m = 8 * a + b ∧ (b = 1 ∨ b = 3 ∨ b = 5 ∨ b = 7):=⟨m / 8,m % 8,by omega,by omega⟩
 have : m * m = 8 * (a * (8 * a) + 2 * (a * b)) + b * b:=by
  rw [ha,Int.add_mul,Int.mul_add,Int.mul_add,Int.mul_assoc,Int.mul_assoc,Int.mul_comm b,Int.mul_assoc 8 a b]
  omega
 rw [this]
 rcases hb with rfl | rfl | rfl | rfl <;> omega
theorem dv_step {m x : Int} {k : Nat} (hk : k < 5) (h : dv k ∣ m * x - 1) :
  dv (k + 1) ∣ m * (x * ((2 - m * x % 18446744073709551616) % 18446744073709551616) % 18446744073709551616) - 1:=by
 refine newton h ?_ ?_
 ·
  match k,hk with
  | 0,_ => decide
  | 1,_ => decide
  | 2,_ => decide
  | 3,_ => decide
  | 4,_ => decide
 ·
  match k,hk with
  | 0,_ => decide
  | 1,_ => decide
  | 2,_ => decide
  | 3,_ => decide
  | 4,_ => decide
/-! ### modulo an odd number,2^256 can be taken away -/
theorem top_twoF : top = 2 ^ 256:=by decide
theorem cop_top {M : Nat} (h : M % 2 = 1) : Nat.Coprime top M:=by
 rw [top_twoF]
 apply Nat.Coprime.pow_left
 unfold Nat.Coprime
 rw [Nat.gcd_rec,h]; rfl
theorem cut_top {M A B : Nat} (hM : M % 2 = 1) (h : A * top % M = B * top % M) : A % M = B % M:=by
 have hc : Nat.Coprime M top:=(cop_top hM).symm
 have key : ∀ {a b : Nat},a ≤ b → a * top % M = b * top % M → a % M = b % M:=by
  intro a b hab h
  have h1 : M ∣ (b - a) * top:=by
   rw [Nat.sub_mul]
   exact Nat.dvd_of_mod_eq_zero (Nat.sub_mod_eq_zero_of_mod_eq h.symm)
  have h2 : M ∣ b - a:=Nat.Coprime.dvd_of_dvd_mul_right hc h1
  obtain ⟨c,hc2⟩:=h2
  rw [show b = a + M * c by omega,Nat.add_mul_mod_self_left]
 rcases Nat.le_total A B with hab | hab
 ·
  exact key hab h
 ·
  exact (key hab h.symm).symm
theorem shr_sum {X M Z T o : Nat} (hX : X < top8) (hT : T < top) (hM0 : 0 < M) (hlow : Z % top = 0) (e : Z + o * top8 = X + T * M) :
  (Z / top + o * top) * top = X + T * M ∧ Z / top + o * top < top + M ∧ (X < M * top → Z / top + o * top < 2 * M):=by
 have hp:=zcj
 have hz : top * (Z / top) + Z % top = Z:=Nat.div_add_mod _ _
 rw [zjw] at *
 have e2 : (Z / top + o * top) * top = X + T * M:=by
  rw [Nat.add_mul,Nat.mul_assoc,Nat.mul_comm (Z / top)]; omega
 have hTM : T * M < top * M:=Nat.mul_lt_mul_of_pos_right hT hM0
 refine ⟨e2,?_,fun h => ?_⟩
 ·
  apply Nat.lt_of_mul_lt_mul_right (a:=top)
  rw [e2,Nat.add_mul,Nat.mul_comm M]; omega
 ·
  apply Nat.lt_of_mul_lt_mul_right (a:=top)
  rw [e2,Nat.mul_assoc 2,Nat.mul_comm M] at *
  omega
end Go.Proofs.YtedehdbajiaaiaaGreatDoor
namespace Go.Proofs.YtedehdbajiaaiaaGreatDoor
open Go.RowKit
open Go.Value renaming int → vI
open Go.IntKind renaming u64 → vU
open Go.Act renaming put → aP
open List renaming setIfInBounds_toArray → lA, set_cons_zero → lZ, set_cons_succ → lS
def fdf (M : Nat) (N : Int) (Q : Nat) : Nat → Value:=fun j => if j < 4 then .int .u64 (wd M j) else if j = 4 then .int .u64 N else .int .u64 (wd Q (j - 5))
def Fb (w : World) (b M : Nat) (N : Int) (Q : Nat) : Prop:=w.rowIs b 172 9 (fdf M N Q)
structure Fok (M : Nat) (N : Int) (Q : Nat) : Prop where
 m2 : 2 < M
 odd : M % 2 = 1
 mt : M < top
 n0 : 0 ≤ N
 n1 : N ≤ 18446744073709551615
 inv : (18446744073709551616 : Int) ∣ wd M 0 * N - 1
 q : Q = top8 % M
theorem Fok.qm {M : Nat} {N : Int} {Q : Nat} (h : Fok M N Q) : Q < M:=by rw [h.q]; exact Nat.mod_lt _ (by have:=h.m2; omega)
section
variable {w w' : World} {b M Q B : Nat} {N : Int}
theorem Fb.lt (h : Fb w b M N Q) : b < w.heap.size:=World.rowIs.lt h
theorem Fb.below (h : Fb w b M N Q) (hb : Below B w w') (hlt : b < B) : Fb w' b M N Q:=zab h hb hlt
theorem Fb.call (h : Fb w b M N Q) (hb : Below w.heap.size w w') : Fb w' b M N Q:=zab h hb h.lt
theorem Fb.drew (h : Fb w b M N Q) : Fb w.drew b M N Q:=h
theorem Fb.alloc (h : Fb w b M N Q) (o : Obj) : Fb (w.alloc o) b M N Q:=World.rowIs.alloc h o
theorem Fb.far {b' i : Nat} (h : Fb w b M N Q) (hne : b ≠ b') (v : Value) : Fb (w.setCell ⟨b',i,none⟩ v) b M N Q:=zaz h hne v
theorem Fb.mod (h : Fb w b M N Q) : w.cell? ⟨b,0,none⟩ = some (vI vU (wd M 0)) ∧ w.cell? ⟨b,1,none⟩ = some (vI vU (wd M 1)) ∧ w.cell? ⟨b,2,none⟩ = some (vI vU (wd M 2)) ∧ w.cell? ⟨b,3,none⟩ = some (vI vU (wd M 3)) :=
 ⟨World.rowIs.cell h (by omega),World.rowIs.cell h (by omega),World.rowIs.cell h (by omega),World.rowIs.cell h (by omega)⟩
theorem Fb.inv (h : Fb w b M N Q) : w.cell? ⟨b,4,none⟩ = some (vI vU N):=World.rowIs.cell h (by omega)
theorem Fb.sq (h : Fb w b M N Q) : w.cell? ⟨b,5,none⟩ = some (vI vU (wd Q 0)) ∧ w.cell? ⟨b,6,none⟩ = some (vI vU (wd Q 1)) ∧ w.cell? ⟨b,7,none⟩ = some (vI vU (wd Q 2)) ∧ w.cell? ⟨b,8,none⟩ = some (vI vU (wd Q 3)) :=
 ⟨World.rowIs.cell h (by omega),World.rowIs.cell h (by omega),World.rowIs.cell h (by omega),World.rowIs.cell h (by omega)⟩
end
theorem wide_num (X : Nat) (h : X < top) : wd X 4 = 0 ∧ wd X 5 = 0 ∧ wd X 6 = 0 ∧ wd X 7 = 0:=by
 have e : ∀ i,4 ≤ i → wd X i = 0:=by
  intro i hi
  unfold wd dg
  rw [Nat.div_eq_of_lt (Nat.lt_of_lt_of_le h (Nat.pow_le_pow_right zbe hi))]; rfl
 exact ⟨e 4 (by omega),e 5 (by omega),e 6 (by omega),e 7 (by omega)⟩
theorem wide_calls (X : Nat) (hX : X < top) (w : World) :
  Calls Tryz.prog 159 #[.agg #[vI vU (wd X 0),vI vU (wd X 1),vI vU (wd X 2),vI vU (wd X 3)]] w fun e w' => e = .returned (.agg #[vI vU (wd X 0),vI vU (wd X 1),vI vU (wd X 2),vI vU (wd X 3),vI vU (wd X 4),vI vU (wd X 5),vI vU (wd X 6),vI vU (wd X 7)]) ∧ Below w.heap.size w w':=by
 obtain ⟨e4,e5,e6,e7⟩:=wide_num X hX
 rw [e4,e5,e6,e7]
 have hA0 : ((w.alloc (.cells #[vI vU (wd X 0),vI vU (wd X 1),vI vU (wd X 2),vI vU (wd X 3)] 26)).alloc (.cells #[vI vU 0,vI vU 0,vI vU 0,vI vU 0,vI vU 0,vI vU 0,vI vU 0,vI vU 0] 131)).rowIs w.heap.size 26 4 (fun j => .int .u64 (wd X j)):=(zag (n:=4) (by simp) rfl (arr4 fun j => .int .u64 (wd X j))).alloc _
 have hR0 : ((w.alloc (.cells #[vI vU (wd X 0),vI vU (wd X 1),vI vU (wd X 2),vI vU (wd X 3)] 26)).alloc (.cells #[vI vU 0,vI vU 0,vI vU 0,vI vU 0,vI vU 0,vI vU 0,vI vU 0,vI vU 0] 131)).rowIs (w.heap.size + 1) 131 8 (fun _ => .int .u64 0):=zag (n:=8) (by simp) rfl (arr8 fun _ => .int .u64 0)
 obtain ⟨c0,c1,c2,c3⟩:=zae hA0
 obtain ⟨f0,f1,f2,f3,f4,f5,f6,f7⟩:=row_f8 hR0
 obtain ⟨d0,d1,d2,d3,d4,d5,d6,d7⟩:=row_c8 hR0
 clear e4 e5 e6 e7
 go_enter Tryz.func159,Tryz.ntmps159
 go_wp2
 exact bodyPost_ret (results_cell_row rfl _ _ (w.heap.size + 1) 131 #[vI vU (wd X 0),vI vU (wd X 1),vI vU (wd X 2),vI vU (wd X 3),vI vU 0,vI vU 0,vI vU 0,vI vU 0] (0,0) _ rfl (blk8 (zag (n:=8) (f:=fun j => if j < 4 then Value.int .u64 (wd X j) else .int .u64 0) (by simp) rfl (arr8 fun j => if j < 4 then Value.int .u64 (wd X j) else .int .u64 0))) Tryz.underlying131 rfl (by kernel_rfl)) rfl ⟨rfl,((Below.refl _ _).alloc (by simp) _).alloc (by simp) _⟩
theorem inverse_calls (m : Int) (h0 : 0 ≤ m) (h1 : m ≤ 18446744073709551615) (hodd : m % 2 = 1) (w : World) :
  Calls Tryz.prog 141 #[vI vU m] w fun e w' => ∃ n : Int,0 ≤ n ∧ n ≤ 18446744073709551615 ∧ (18446744073709551616 : Int) ∣ m * n - 1 ∧ e = .returned (.int .u64 n) ∧ w' = w:=by
 have hS:=veil (dv_start hodd)
 clear hodd
 go_enter Tryz.func141,Tryz.ntmps141
 go_wp2
 go_loopw [3,5] (fun x i wr => ∃ (k : Nat) (n : Int),k ≤ 5 ∧ i = .int .i64 (k : Int) ∧ x = .int .u64 n ∧ 0 ≤ n ∧ n ≤ 18446744073709551615 ∧ Hid (dv k ∣ m * n - 1) ∧ wr = w)
  (fun _ i _ => 5 - (intOf i).toNat)
 case atStart => exact ⟨0,m,by omega,rfl,rfl,h0,h1,hS,rfl⟩
 case round =>
  obtain ⟨k,n,hk,rfl,rfl,n0,n1,hD,rfl⟩:=hrel
  by_cases hlt : k < 5
  ·
   have hn:=veil (dv_step hlt hD.out)
   obtain ⟨y,hy⟩ : ∃ y,y = n * ((2 - m * n % 18446744073709551616) % 18446744073709551616) % 18446744073709551616:=⟨_,rfl⟩
   rw [← hy] at hn
   have y0 : 0 ≤ y:=by omega
   have y1 : y ≤ 18446744073709551615:=by omega
   have hY:=veil hy
   clear hy
   go_wp2
   go_roundw
   case rel => exact ⟨k + 1,y,by omega,by go_num,by simp only [IntKind.wrap_u64]; rw [hY.out],y0,y1,hn,trivial⟩
   case measure => simp [intOf]; omega
  ·
   obtain rfl : k = 5:=by omega
   go_wp2
   go_ret
   exact ⟨n,n0,n1,hD.out,rfl,rfl⟩
theorem ret_u2 {a b c d : Int} (h : a = b) (h2 : c = d) : Ending.returned (.tuple #[vI vU a,vI vU c]) = .returned (.tuple #[vI vU b,vI vU d]):=by rw [h,h2]
theorem mul64 (x y : Int) (hx : 0 ≤ x) (hx2 : x ≤ 18446744073709551615) (hy : 0 ≤ y) (hy2 : y ≤ 18446744073709551615) (w : World) :
  Calls Tryz.prog 165 #[vI vU x,vI vU y] w fun e w' => e = .returned (.tuple #[vI vU (x * y / 18446744073709551616),vI vU (x * y % 18446744073709551616)]) ∧ w' = w:=by
 have key:=mul64_arith x y hx (by omega) hy (by omega)
 have m1:=and_low32 x hx (by omega)
 have m2:=and_low32 y hy (by omega)
 have K:=veil key
 have M1:=veil m1
 have M2:=veil m2
 clear key m1 m2
 go_enter Tryz.func165,Tryz.ntmps165
 go_wp2
 go_ret2
 refine ⟨ret_u2 ?_ ?_,rfl⟩
 ·
  simp only [M1.out,M2.out,IntKind.wrap_u64]
  rw [and_low32 _ (by omega) (by omega)]
  exact K.out
 ·
  exact IntKind.wrap_u64 _
theorem ma_bound {x y : Int} (hx : 0 ≤ x) (hx2 : x ≤ 18446744073709551615) (hy : 0 ≤ y) (hy2 : y ≤ 18446744073709551615) : 0 ≤ x * y ∧ x * y ≤ 340282366920938463426481119284349108225:=by
 refine ⟨Int.mul_nonneg hx hy,?_⟩
 have:=Int.mul_le_mul hx2 hy2 hy (by omega : (0 : Int) ≤ 18446744073709551615)
 omega
theorem mulAdd_calls (x y u v : Int) (hx : 0 ≤ x) (hx2 : x ≤ 18446744073709551615) (hy : 0 ≤ y) (hy2 : y ≤ 18446744073709551615) (hu : 0 ≤ u) (hu2 : u ≤ 18446744073709551615) (hv : 0 ≤ v) (hv2 : v ≤ 18446744073709551615) (w : World) :
  Calls Tryz.prog 157 #[vI vU x,vI vU y,vI vU u,vI vU v] w fun e w' => e = .returned (.tuple #[vI vU ((x * y + u + v) % 18446744073709551616),vI vU ((x * y + u + v) / 18446744073709551616)]) ∧ w' = w:=by
 obtain ⟨p0,p1⟩:=ma_bound hx hx2 hy hy2
 obtain ⟨P,hP⟩ : ∃ P,P = x * y:=⟨_,rfl⟩
 rw [← hP] at p0 p1 ⊢
 obtain ⟨L,hL⟩ : ∃ L,L = P % 18446744073709551616:=⟨_,rfl⟩
 obtain ⟨Hh,hH⟩ : ∃ Hh,Hh = P / 18446744073709551616:=⟨_,rfl⟩
 obtain ⟨L1,hL1⟩ : ∃ L1,L1 = (L + u + 0) % 18446744073709551616:=⟨_,rfl⟩
 obtain ⟨c1,hc1⟩ : ∃ c1,c1 = (L + u + 0) / 18446744073709551616:=⟨_,rfl⟩
 obtain ⟨L2,hL2⟩ : ∃ L2,L2 = (L1 + v + 0) % 18446744073709551616:=⟨_,rfl⟩
 obtain ⟨c2,hc2⟩ : ∃ c2,c2 = (L1 + v + 0) / 18446744073709551616:=⟨_,rfl⟩
 have h29a:=fun W => add64 L u 0 (by omega) hu (by omega) (by omega) W
 have h29b:=fun W => add64 L1 v 0 (by omega) hv (by omega) (by omega) W
 rw [← hL1,← hc1] at h29a
 rw [← hL2,← hc2] at h29b
 have b1 : 0 ≤ Hh:=by omega
 have b2 : 0 ≤ c1:=by omega
 have b3 : 0 ≤ c2:=by omega
 have b4 : Hh + c1 ≤ 18446744073709551615:=by omega
 have b5 : Hh + c1 + c2 ≤ 18446744073709551615:=by omega
 have e1 : (P + u + v) % 18446744073709551616 = L2:=by omega
 have e2 : (P + u + v) / 18446744073709551616 = Hh + c1 + c2:=by omega
 have hM:=fun W => mul64 x y hx hx2 hy hy2 W
 rw [← hP,← hL,← hH] at hM
 have HM:=veil hM
 have E:=veil (And.intro e1 e2)
 clear hM e1 e2 hP hL hH hL1 hc1 hL2 hc2 p0 p1 hx hx2 hy hy2 hu hu2 hv hv2
 go_enter Tryz.func157,Tryz.ntmps157
 go_wp2_with (go_at_call 165; refine (HM.out _).mono ?_; rintro e w' ⟨rfl,rfl⟩)
 go_ret2
 rw [E.out.1,E.out.2]
 exact ⟨rfl,rfl⟩
end Go.Proofs.YtedehdbajiaaiaaGreatDoor
namespace Go.Proofs.YtedehdbajiaaiaaGreatDoor
def PP (B X Y i : Nat) : Nat:=X % B ^ i * Y
def TT (B X Y i j : Nat) : Nat:=PP B X Y i % B ^ (i + j) + dg B X i * (B ^ i * (Y % B ^ j))
def CC (B X Y i j : Nat) : Nat:=TT B X Y i j / B ^ (i + j)
def UU (B X Y i j m : Nat) : Nat:=if m < i + j then dg B (TT B X Y i j) m else dg B (PP B X Y i) m
theorem UU_start {B : Nat} (X Y i m : Nat) : UU B X Y i 0 m = dg B (PP B X Y i) m:=by
 unfold UU
 split
 ·
  rename_i h
  unfold TT
  simp only [Nat.pow_zero,Nat.mod_one,Nat.mul_zero,Nat.add_zero] at *
  exact zdt _ i m h
 ·
  rfl
theorem CC_start {B : Nat} (hB : 0 < B) (X Y i : Nat) : CC B X Y i 0 = 0:=by
 unfold CC TT
 simp only [Nat.pow_zero,Nat.mod_one,Nat.mul_zero,Nat.add_zero]
 exact Nat.div_eq_of_lt (Nat.mod_lt _ (Nat.pow_pos hB))
theorem TT_lt {B : Nat} (hB : 0 < B) (X Y i j : Nat) : TT B X Y i j < B ^ (i + j) * B:=by
 have hQ : 0 < B ^ (i + j):=Nat.pow_pos hB
 have h1:=Nat.mod_lt (PP B X Y i) hQ
 have h2 : B ^ i * (Y % B ^ j) ≤ B ^ (i + j):=by
  rw [Nat.pow_add]
  exact Nat.mul_le_mul_left _ (Nat.le_of_lt (Nat.mod_lt _ (Nat.pow_pos hB)))
 have h3 : dg B X i * (B ^ i * (Y % B ^ j)) ≤ (B - 1) * B ^ (i + j):=Nat.mul_le_mul (by have:=dg_lt hB X i; omega) h2
 unfold TT
 have h4 : B ^ (i + j) * B = B ^ (i + j) + (B - 1) * B ^ (i + j):=by
  obtain ⟨b,rfl⟩ : ∃ b,B = b + 1:=⟨B - 1,by omega⟩
  rw [Nat.add_sub_cancel,Nat.mul_add,Nat.mul_one,Nat.mul_comm]
  omega
 omega
theorem CC_lt {B : Nat} (hB : 0 < B) (X Y i j : Nat) : CC B X Y i j < B:=by
 unfold CC
 rw [Nat.div_lt_iff_lt_mul (Nat.pow_pos hB),Nat.mul_comm]
 exact TT_lt hB X Y i j
theorem UU_lt {B : Nat} (hB : 0 < B) (X Y i j m : Nat) : UU B X Y i j m < B:=by
 unfold UU
 split <;> exact dg_lt hB _ _
theorem TT_step {B : Nat} (X Y i j : Nat) :
  TT B X Y i (j + 1) = TT B X Y i j % B ^ (i + j) + B ^ (i + j) * (dg B X i * dg B Y j + dg B (PP B X Y i) (i + j) + CC B X Y i j):=by
 have h1 : TT B X Y i (j + 1) = TT B X Y i j + B ^ (i + j) * (dg B (PP B X Y i) (i + j) + dg B X i * dg B Y j):=by
  unfold TT
  rw [show i + (j + 1) = (i + j) + 1 by omega,zcq B (PP B X Y i) (i + j),zcq B Y j,Nat.mul_add (B ^ i),← Nat.mul_assoc (B ^ i),← Nat.pow_add,Nat.mul_add (dg B X i),Nat.mul_add (B ^ (i + j)),
   show dg B X i * (B ^ (i + j) * dg B Y j) = B ^ (i + j) * (dg B X i * dg B Y j) by rw [Nat.mul_left_comm]]
  omega
 have h2 : B ^ (i + j) * CC B X Y i j + TT B X Y i j % B ^ (i + j) = TT B X Y i j:=Nat.div_add_mod _ _
 rw [h1,Nat.mul_add,Nat.mul_add,Nat.mul_add]
 omega
theorem UU_step {B : Nat} (hB : 0 < B) (X Y i j : Nat) : UU B X Y i (j + 1) (i + j) = (dg B X i * dg B Y j + UU B X Y i j (i + j) + CC B X Y i j) % B:=by
 have hu : UU B X Y i j (i + j) = dg B (PP B X Y i) (i + j):=by unfold UU; rw [if_neg (by omega)]
 rw [hu]
 unfold UU
 rw [if_pos (by omega),dg,TT_step,Nat.add_mul_div_left _ _ (Nat.pow_pos hB),Nat.div_eq_of_lt (Nat.mod_lt _ (Nat.pow_pos hB)),Nat.zero_add]
theorem CC_step {B : Nat} (hB : 0 < B) (X Y i j : Nat) : CC B X Y i (j + 1) = (dg B X i * dg B Y j + UU B X Y i j (i + j) + CC B X Y i j) / B:=by
 have hu : UU B X Y i j (i + j) = dg B (PP B X Y i) (i + j):=by unfold UU; rw [if_neg (by omega)]
 rw [hu]
 show TT B X Y i (j + 1) / B ^ (i + (j + 1)) = _
 rw [show i + (j + 1) = (i + j) + 1 by omega,Nat.pow_succ,← Nat.div_div_eq_div_mul,TT_step,Nat.add_mul_div_left _ _ (Nat.pow_pos hB),Nat.div_eq_of_lt (Nat.mod_lt _ (Nat.pow_pos hB)),Nat.zero_add]
theorem UU_other {B : Nat} (X Y i j m : Nat) (hm : m ≠ i + j) : UU B X Y i (j + 1) m = UU B X Y i j m:=by
 unfold UU
 by_cases h : m < i + j
 ·
  rw [if_pos (by omega),if_pos h,← zdt _ (i + j) m h,TT_step,Nat.add_mul_mod_self_left,Nat.mod_mod,zdt _ (i + j) m h]
 ·
  rw [if_neg (by omega),if_neg h]
theorem PP_lt {B : Nat} (hB : 0 < B) (X Y i n : Nat) (hY : Y < B ^ n) : PP B X Y i < B ^ (i + n):=by
 have h1 : X % B ^ i < B ^ i:=Nat.mod_lt _ (Nat.pow_pos hB)
 unfold PP
 rw [Nat.pow_add]
 exact Nat.mul_lt_mul_of_lt_of_le h1 (Nat.le_of_lt hY) (by omega)
theorem PP_step {B : Nat} (hB : 0 < B) (X Y i n : Nat) (hY : Y < B ^ n) : PP B X Y (i + 1) = TT B X Y i n:=by
 unfold TT
 rw [Nat.mod_eq_of_lt (PP_lt hB X Y i n hY),Nat.mod_eq_of_lt hY]
 unfold PP
 rw [zcq,Nat.add_mul,Nat.mul_comm (B ^ i) (dg B X i),Nat.mul_assoc]
theorem PP_row {B : Nat} (hB : 0 < B) (X Y i n m : Nat) (hY : Y < B ^ n) : dg B (PP B X Y (i + 1)) m = if m = i + n then CC B X Y i n else UU B X Y i n m:=by
 rw [PP_step hB X Y i n hY]
 by_cases h : m = i + n
 ·
  subst h
  rw [if_pos rfl]
  show CC B X Y i n % B = _
  exact Nat.mod_eq_of_lt (CC_lt hB X Y i n)
 ·
  rw [if_neg h]
  unfold UU
  by_cases h2 : m < i + n
  ·
   rw [if_pos h2]
  ·
   rw [if_neg h2]
   have hle : B ^ (i + n) * B ≤ B ^ m:=by rw [← Nat.pow_succ]; exact Nat.pow_le_pow_right hB (by omega)
   have h3:=TT_lt hB X Y i n
   have h4:=PP_lt hB X Y i n hY
   have h5 : B ^ (i + n) ≤ B ^ (i + n) * B:=Nat.le_mul_of_pos_right _ hB
   unfold dg
   rw [Nat.div_eq_of_lt (by omega),Nat.div_eq_of_lt (by omega)]
theorem PP_zero (B X Y : Nat) : PP B X Y 0 = 0:=by simp [PP,Nat.mod_one]
theorem PP_end {B : Nat} (X Y n : Nat) (hX : X < B ^ n) : PP B X Y n = X * Y:=by unfold PP; rw [Nat.mod_eq_of_lt hX]
theorem dg_zero (B i : Nat) : dg B 0 i = 0:=by simp [dg]
end Go.Proofs.YtedehdbajiaaiaaGreatDoor
namespace Go.Proofs.YtedehdbajiaaiaaGreatDoor
open Go.RowKit
open Go.Value renaming int → vI
open Go.IntKind renaming u64 → vU
open Go.Act renaming put → aP
open List renaming setIfInBounds_toArray → lA, set_cons_zero → lZ, set_cons_succ → lS
def be32 (y : Nat → Nat) (k : Nat) : Nat:=lev (fun i => y (k + (31 - i))) 32
section
variable {P : Program} {ops : Array Oper} {Q : Exit → Act → World → Prop} {md : Region.Mode}
theorem all_cons {p : Nat → Prop} {i : Nat} {rs : List Nat} (h : p i) (k : ∀ j ∈ rs,p j) : ∀ j ∈ i :: rs,p j:=fun j hj => by
 rcases List.mem_cons.1 hj with rfl | hj
 ·
  exact h
 ·
  exact k j hj
section
variable {i : Nat} {o : Oper} {d : Option Tmp} {K : Act → World → Prop} {a : Act} {W : World}
end
/-! ### a piece of the text's order,whatever has come up -/
end
def Lit (A : Nat → Nat → Act) (T : Nat → World → Prop) : Exit → Act → World → Prop:=fun e a W => ∃ g p,e = .normal ∧ a = A g p ∧ T p W
section
variable {P : Program} {Q : Exit → Act → World → Prop} {A : Nat → Nat → Act} {T : Nat → World → Prop}
section
variable {P : Program} {Q : Exit → Act → World → Prop}
end
end
section
variable {P : Program} {Q : Exit → Act → World → Prop} {l : List Oper} {m g : Nat} {A : Act} {w W0 : World} {ty t : TypeId} {zs cells : Array Value} {d de : Tmp} {y : Operand}
end
end Go.Proofs.YtedehdbajiaaiaaGreatDoor
namespace Go.Proofs.YtedehdbajiaaiaaGreatDoor
open Go.ChangeShapes Go.WideShapes Go.RowKit
open Go.Value renaming int → vI
open Go.IntKind renaming u64 → vU
open Go.Act renaming put → aP
open List renaming setIfInBounds_toArray → lA, set_cons_zero → lZ, set_cons_succ → lS
theorem ownT : ownKnob Tryz.prog.godebug = none:=by kernel_rfl
theorem laidOutT : laidOutB Tryz.prog = true:=by kernel_rfl
theorem cellsT1 : Tryz.prog.cellsOf 5 = 1:=by kernel_rfl
theorem bs_of {H : Type} {enc : TypeId × Value → H} {W : World} {v : Value} {fuel : Nat} {d : DataW H} {p : List MemPlace} {base : Nat} {sp : Nat → Bool} {held : Bool}
  (hf : DataW.trod enc Tryz.prog W base sp held fuel 29 [v] = some (d,p)) : ∃ (A : Option Addr) (len cap : Nat) (bs : List Nat),v = .slice A len cap ∧ len = bs.length ∧ Bs W A bs ∧ len ≤ cap:=by
 rcases open_ints Tryz.underlying29 Tryz.underlying5 cellsT1 hf with ⟨hcs,hx⟩ | ⟨a,len,cap,zs,hcs,_,hlc,_,hz,hx,hcell,hwz⟩
 ·
  simp only [List.cons.injEq,and_true] at hcs
  exact ⟨none,0,0,[],hcs,rfl,Bs.nil _ _,Nat.le_refl _⟩
 ·
  simp only [List.cons.injEq,and_true] at hcs
  have hzl : len ≤ zs.length:=by rw [hz]; split <;> omega
  have hb : ∀ z ∈ zs,0 ≤ z ∧ z < 256:=fun z hz' => by
   have h:=hwz z hz'
   simp only [Lit.wf,Bool.and_eq_true,decide_eq_true_eq] at h
   have e1 : IntKind.u8.min = 0:=rfl
   have e2 : IntKind.u8.max = 255:=rfl
   omega
  have hl : ((zs.take len).map fun z => z.toNat).length = len:=by simp; omega
  refine ⟨some a,len,cap,(zs.take len).map fun z => z.toNat,hcs,hl.symm,⟨fun x hx' => ?_,?_⟩,hlc⟩
  ·
   obtain ⟨z,hz1,rfl⟩:=List.mem_map.1 hx'
   have:=hb z (List.mem_of_mem_take hz1)
   omega
  ·
   by_cases h0 : len = 0
   ·
    exact .inl (by rw [hl]; exact h0)
   ·
    clear hcs hx
    obtain ⟨b,off,spot⟩:=a
    have h00:=hcell 0 (by omega)
    have hspot : spot = none:=by simpa [Addr.add] using World.cell?_spot h00
    subst hspot
    have hblk : b < W.heap.size:=by
     have:=World.block_lt_of_cell? W _ h00
     simpa [Addr.add] using this
    refine .inr ⟨b,off,rfl,hblk,fun j hj => ?_⟩
    rw [hl] at hj
    have hjz : j < zs.length:=by omega
    have hzj:=hb (zs[j]) (List.getElem_mem hjz)
    have e1 : ((zs.take len).map fun z => z.toNat).getD j 0 = (zs[j]).toNat:=by
     simp [List.getD_eq_getElem?_getD,List.getElem?_take_of_lt hj,hjz]
    have e2 : zs.getD j 0 = zs[j]:=by simp [List.getD_eq_getElem?_getD,hjz]
    rw [← Addr.add_mid,hcell j hjz,e1,e2,Int.toNat_of_nonneg hzj.1]
end Go.Proofs.YtedehdbajiaaiaaGreatDoor
namespace Go.Proofs.YtedehdbajiaaiaaGreatDoor
open Go.ChangeShapes Go.WideShapes Go.ChangeAt Go.RowKit
open Go.Value renaming int → vI
open Go.IntKind renaming u64 → vU
open Go.Act renaming put → aP
open List renaming setIfInBounds_toArray → lA, set_cons_zero → lZ, set_cons_succ → lS
theorem cellsWord : Tryz.prog.cellsOf 24 = 1:=by kernel_rfl
def numD {H : Type} (X : Nat) : DataW H:=.agg [.lit (.int .u64 (wd X 0)),.lit (.int .u64 (wd X 1)),.lit (.int .u64 (wd X 2)),.lit (.int .u64 (wd X 3))]
theorem wf_u64 {x : Int} (h : (Lit.int .u64 x).wf = true) : 0 ≤ x ∧ x < 18446744073709551616:=by
 simp only [Lit.wf,Bool.and_eq_true,decide_eq_true_eq] at h
 have e1 : IntKind.u64.min = 0:=rfl
 have e2 : IntKind.u64.max = 18446744073709551615:=rfl
 omega
section
variable {H : Type} {enc : TypeId × Value → H}
end
end Go.Proofs.YtedehdbajiaaiaaGreatDoor
namespace Go.Proofs.YtedehdbajiaaiaaGreatDoor
open Go.ChangeShapes Go.WideShapes Go.ChangeAt Go.RowKit
open Go.Value renaming int → vI
open Go.IntKind renaming u64 → vU
open Go.Act renaming put → aP
open List renaming setIfInBounds_toArray → lA, set_cons_zero → lZ, set_cons_succ → lS
def pointD {H : Type} (X Y : Nat) (f : Bool) : DataW H:=.agg [numD X,numD Y,.lit (.bool f)]
theorem array9 {cs : Array Value} (h : cs.size = 9) : ∃ c0 c1 c2 c3 c4 c5 c6 c7 c8,cs = #[c0,c1,c2,c3,c4,c5,c6,c7,c8]:=by
 obtain ⟨l⟩:=cs
 match l,h with
 | [c0,c1,c2,c3,c4,c5,c6,c7,c8],_ => exact ⟨c0,c1,c2,c3,c4,c5,c6,c7,c8,rfl⟩
section
variable {H : Type} {enc : TypeId × Value → H}
theorem num_of_trod {W : World} {base : Nat} {sp : Nat → Bool} {hd : Bool} {fuel : Nat} {c0 c1 c2 c3 : Value} {x : DataW H × List MemPlace} (hf : DataW.trod enc Tryz.prog W base sp hd fuel 26 [c0,c1,c2,c3] = some x) :
  ∃ X,X < top ∧ c0 = .int .u64 (wd X 0) ∧ c1 = .int .u64 (wd X 1) ∧ c2 = .int .u64 (wd X 2) ∧ c3 = .int .u64 (wd X 3) ∧ x = (numD X,[]):=by
 obtain ⟨y0,y1,y2,y3,m,hx,hy0,hy1,hy2,hy3⟩:=trod_array4 Tryz.underlying26 cellsWord hf
 obtain ⟨x0,e0,rfl,w0⟩:=DataW.trod_int Tryz.underlying24 hy0
 obtain ⟨x1,e1,rfl,w1⟩:=DataW.trod_int Tryz.underlying24 hy1
 obtain ⟨x2,e2,rfl,w2⟩:=DataW.trod_int Tryz.underlying24 hy2
 obtain ⟨x3,e3,rfl,w3⟩:=DataW.trod_int Tryz.underlying24 hy3
 simp at e0 e1 e2 e3
 subst e0 e1 e2 e3
 subst hx
 obtain ⟨a0,b0⟩:=wf_u64 w0
 obtain ⟨a1,b1⟩:=wf_u64 w1
 obtain ⟨a2,b2⟩:=wf_u64 w2
 obtain ⟨a3,b3⟩:=wf_u64 w3
 obtain ⟨g0,g1,g2,g3⟩:=wd_ofWords a0 b0 a1 b1 a2 b2 a3 b3
 refine ⟨ofWords x0 x1 x2 x3,ofWords_lt b0 b1 b2 b3,?_,?_,?_,?_,?_⟩
 ·
  rw [g0]
 ·
  rw [g1]
 ·
  rw [g2]
 ·
  rw [g3]
 ·
  unfold numD
  rw [g0,g1,g2,g3]
  rfl
theorem open_point {W : World} {base : Nat} {v : Value} {d : DataW H} {p : List MemPlace} (hv : Value.okWide Tryz.prog W .any base 48 v) (h : DataW.Trod enc Tryz.prog W 0 (fun _ => true) true 48 v d p) :
  ∃ X Y f,X < top ∧ Y < top ∧ v = .agg #[vI vU (wd X 0),vI vU (wd X 1),vI vU (wd X 2),vI vU (wd X 3),vI vU (wd Y 0),vI vU (wd Y 1),vI vU (wd Y 2),vI vU (wd Y 3),.bool (f)] ∧ d = pointD X Y f ∧ p = []:=by
 obtain ⟨cs,rfl,hsz⟩:=okWide_struct Tryz.underlying48 hv
 rw [zkj] at hsz
 obtain ⟨c0,c1,c2,c3,c4,c5,c6,c7,c8,rfl⟩:=array9 hsz
 obtain ⟨fuel,hf⟩:=h
 obtain ⟨y0,y1,y2,m,hx,_,hy0,hy1,hy2⟩:=Deep.trod_struct3 Tryz.underlying48 hf
 have hy0 : DataW.trod enc Tryz.prog W 0 (fun _ => true) true m 26 [c0,c1,c2,c3] = some y0:=by simpa [Value.cells,zgv] using hy0
 have hy1 : DataW.trod enc Tryz.prog W 0 (fun _ => true) true m 26 [c4,c5,c6,c7] = some y1:=by simpa [Value.cells,zgv] using hy1
 have hy2 : DataW.trod enc Tryz.prog W 0 (fun _ => true) true m 4 [c8] = some y2:=by simpa [Value.cells,cells_bool] using hy2
 obtain ⟨X,lX,rfl,rfl,rfl,rfl,rfl⟩:=num_of_trod hy0
 obtain ⟨Y,lY,rfl,rfl,rfl,rfl,rfl⟩:=num_of_trod hy1
 obtain ⟨f,e,rfl⟩:=DataW.trod_bool Tryz.underlying4 hy2
 obtain rfl:=List.head_eq_of_cons_eq e
 simp only [Prod.mk.injEq,List.append_nil] at hx
 obtain ⟨rfl,rfl⟩:=hx
 exact ⟨X,Y,f,lX,lY,rfl,rfl,rfl⟩
end
end Go.Proofs.YtedehdbajiaaiaaGreatDoor
namespace Go.Proofs.YtedehdbajiaaiaaGreatDoor
open Go.RowKit
open Go.Value renaming int → vI
open Go.IntKind renaming u64 → vU
open Go.Act renaming put → aP
open List renaming setIfInBounds_toArray → lA, set_cons_zero → lZ, set_cons_succ → lS
theorem zef (n l m : Int) (w : World) : Calls Tryz.prog 28 #[.int .i64 n,.int .i64 l,.int .i64 m] w fun e w' => e = .returned (.bool (decide (l ≤ n) && decide (n ≤ m))) ∧ w' = w:=by
 by_cases g0 : l ≤ n
 ·
  have d0 : decide (l ≤ n) = true:=decide_eq_true g0
  by_cases g1 : n ≤ m
  ·
   have d1 : decide (n ≤ m) = true:=decide_eq_true g1
   rw [show (decide (l ≤ n) && decide (n ≤ m)) = true by rw [d0,d1]; rfl]
   go_enter Tryz.func28,Tryz.ntmps28
   go_wp2
   go_ret
   exact ⟨rfl,rfl⟩
  ·
   have d1 : decide (n ≤ m) = false:=decide_eq_false g1
   rw [show (decide (l ≤ n) && decide (n ≤ m)) = false by rw [d0,d1]; rfl]
   go_enter Tryz.func28,Tryz.ntmps28
   go_wp2
   go_ret
   exact ⟨rfl,rfl⟩
 ·
  have d0 : decide (l ≤ n) = false:=decide_eq_false g0
  rw [show (decide (l ≤ n) && decide (n ≤ m)) = false by rw [d0]; rfl]
  go_enter Tryz.func28,Tryz.ntmps28
  go_wp2
  go_ret
  exact ⟨rfl,rfl⟩
theorem mayT_and (t : Tk) : mayT t = (((((decide (1 ≤ t.s) && decide (t.s ≤ 2147483647)) && (decide (1 ≤ t.p) && decide (t.p ≤ 16))) && (decide (1 ≤ t.z) && decide (t.z ≤ 255))) && (decide (0 ≤ t.f) && decide (t.f ≤ 1073741824))) && (decide (1 ≤ t.k) && decide (t.k ≤ 2147483647))):=by
 unfold mayT
 simp only [Bool.decide_and,Bool.and_assoc]
theorem may9_calls (t : Tk) (w : World) : Calls Tryz.prog 10 #[tkV t] w fun e w' => e = .returned (.bool (mayT t)) ∧ Ext w w':=by
 rw [mayT_and]
 obtain ⟨s,p,z,f,k⟩:=t
 unfold tkV tkC
 have K1:=fun W => zef s 1 2147483647 W
 have K2:=fun W => zef p 1 16 W
 have K3:=fun W => zef z 1 255 W
 have K4:=fun W => zef f 0 1073741824 W
 have K5:=fun W => zef k 1 2147483647 W
 simp only []
 generalize (decide (1 ≤ s) && decide (s ≤ 2147483647)) = b1 at *
 generalize (decide (1 ≤ p) && decide (p ≤ 16)) = b2 at *
 generalize (decide (1 ≤ z) && decide (z ≤ 255)) = b3 at *
 generalize (decide (0 ≤ f) && decide (f ≤ 1073741824)) = b4 at *
 generalize (decide (1 ≤ k) && decide (k ≤ 2147483647)) = b5 at *
 have H:=veil (And.intro K1 (And.intro K2 (And.intro K3 (And.intro K4 K5))))
 have HE:=veil (Ext.alloc w (.cells #[.int .i64 s,.int .i64 p,.int .i64 z,.int .i64 f,.int .i64 k] 23))
 clear K1 K2 K3 K4 K5
 cases b1 with
 | false =>
  simp only [Bool.false_and]
  go_enter Tryz.func10,Tryz.ntmps10
  go_wp2_with (go_at_call 28; refine (H.out.1 _).mono ?_; rintro e w1 ⟨rfl,rfl⟩)
  go_ret
  exact ⟨rfl,HE.out⟩
 | true =>
  cases b2 with
  | false =>
   simp only [Bool.and_false,Bool.false_and]
   go_enter Tryz.func10,Tryz.ntmps10
   go_wp2_with (go_at_call 28; first
    | (with_reducible refine (H.out.1 _).mono ?_; rintro e w1 ⟨rfl,rfl⟩)
    | (with_reducible refine (H.out.2.1 _).mono ?_; rintro e w1 ⟨rfl,rfl⟩))
   go_ret
   exact ⟨rfl,HE.out⟩
  | true =>
   cases b3 with
   | false =>
    simp only [Bool.and_false,Bool.false_and]
    go_enter Tryz.func10,Tryz.ntmps10
    go_wp2_with (go_at_call 28; first
     | (with_reducible refine (H.out.1 _).mono ?_; rintro e w1 ⟨rfl,rfl⟩)
     | (with_reducible refine (H.out.2.1 _).mono ?_; rintro e w1 ⟨rfl,rfl⟩)
     | (with_reducible refine (H.out.2.2.1 _).mono ?_; rintro e w1 ⟨rfl,rfl⟩))
    go_ret
    exact ⟨rfl,HE.out⟩
   | true =>
    cases b4 with
    | false =>
     simp only [Bool.and_false,Bool.false_and]
     go_enter Tryz.func10,Tryz.ntmps10
     go_wp2_with (go_at_call 28; first
      | (with_reducible refine (H.out.1 _).mono ?_; rintro e w1 ⟨rfl,rfl⟩)
      | (with_reducible refine (H.out.2.1 _).mono ?_; rintro e w1 ⟨rfl,rfl⟩)
      | (with_reducible refine (H.out.2.2.1 _).mono ?_; rintro e w1 ⟨rfl,rfl⟩)
      | (with_reducible refine (H.out.2.2.2.1 _).mono ?_; rintro e w1 ⟨rfl,rfl⟩))
     go_ret
     exact ⟨rfl,HE.out⟩
    | true =>
     simp only [Bool.true_and]
     go_enter Tryz.func10,Tryz.ntmps10
     go_wp2_with (go_at_call 28; first
      | (with_reducible refine (H.out.1 _).mono ?_; rintro e w1 ⟨rfl,rfl⟩)
      | (with_reducible refine (H.out.2.1 _).mono ?_; rintro e w1 ⟨rfl,rfl⟩)
      | (with_reducible refine (H.out.2.2.1 _).mono ?_; rintro e w1 ⟨rfl,rfl⟩)
      | (with_reducible refine (H.out.2.2.2.1 _).mono ?_; rintro e w1 ⟨rfl,rfl⟩)
      | (with_reducible refine (H.out.2.2.2.2 _).mono ?_; rintro e w1 ⟨rfl,rfl⟩))
     go_ret
     exact ⟨rfl,HE.out⟩
theorem rng_fd {w : World} {b o : Nat} {x y : Value} (h0 : w.cell? ⟨b,o,none⟩ = some x) (h1 : w.cell? ⟨b,o + 1,none⟩ = some y) : w.rangeAt b o [x,y]:=fun j v hv => by
 match j,hv with
 | 0,hv => rw [Nat.add_zero,h0]; simpa using hv
 | 1,hv => rw [h1]; simpa using hv
theorem infoF2 : (Tryz.prog.info? 88).map (·.size) = some 2:=by kernel_rfl
theorem hzF (W : World) : (Instr.alloc 88 true (.tuple #[])).run Tryz.prog W = .ok (ptrTo W.heap.size) (W.alloc (.cells #[.int .i64 0,.slice none 0 0] 88)):=by simp [Instr.alloc,go_sem]
theorem zid {w : World} {g : Nat} {x y : Value} (h : w.heap[g]? = some (.cells #[x,y] 88 (0,0))) : w.cell? ⟨g,0,none⟩ = some x ∧ w.cell? ⟨g,1,none⟩ = some y:=⟨by rw [cell_of_row w g 0 _ _ _ h]; rfl,by rw [cell_of_row w g 1 _ _ _ h]; rfl⟩
theorem one_fd {T : Int} {A : Option Addr} {L c : Nat} : (#[.int .i64 T,.slice A L c] : Array Value).all (·.oneCell') = true:=by simp [Value.oneCell']
theorem encF_take_len (fs : List Fd) {i : Nat} (hi : i < fs.length) : (encF (fs.take (i + 1))).length = (encF (fs.take i)).length + (3 + (bsF fs i).length):=by
 rw [encF_take fs hi,List.length_append,zib]
theorem sizeOf_calls (v : Value) (fs : List Fd) (w : World) (hF : Fl w v fs) (hM : mayFs fs = true) :
  Calls Tryz.prog 110 #[v] w fun e w' => e = .returned (.int .i64 ((encF fs).length : Nat)) ∧ Ext w w':=by
 obtain ⟨hB,AL,c,rfl,hc,hx⟩:=hF
 obtain ⟨n,hn⟩ : ∃ n,n = fs.length:=⟨_,rfl⟩
 rw [← hn] at hx hc ⊢
 have HR:=veil (And.intro hn (And.intro hM hB))
 have HX:=veil hx
 have hnL : n ≤ 64:=by rw [hn]; exact mayFs_64 hM
 clear hx hB hn hM
 go_enter Tryz.func110,Tryz.ntmps110
 go_wp2
 go_loopw [3,8] (fun s v wr => ∃ i : Nat,i ≤ n ∧ s = .int .i64 ((encF (fs.take i)).length : Nat) ∧ v = .int .i64 (i : Int) ∧ Ext w wr)
  (fun _ v _ => n - (intOf v).toNat)
 case atStart => exact ⟨0,by omega,rfl,rfl,Ext.refl _⟩
 case round =>
  obtain ⟨i,hi,rfl,rfl,hE⟩:=hrel
  by_cases hlt : i < n
  ·
   have hd1 : decide ((i : Int) < (n : Int)) = true:=by simp; omega
   have hii : (i : Int) < (n : Int):=by omega
   have hok:=mayFs_ok HR.out.2.1 (by have:=HR.out.1; omega : i < fs.length)
   have hst:=encF_take_len fs (by have:=HR.out.1; omega : i < fs.length)
   have hle:=zhg HR.out.2.1 i
   obtain ⟨b,o,hAL,hb,hcl⟩:=HX.out.resolve_left (by omega)
   obtain ⟨h1,A,c',h2,h3,h4⟩:=hcl i hlt
   have c0:=(hE.cell hb).trans h1
   have c1:=(hE.cell hb).trans h2
   obtain ⟨S,hS⟩ : ∃ S,S = (encF (fs.take i)).length:=⟨_,rfl⟩
   rw [← hS] at hst hle ⊢
   have hs : (S : Int) ≤ 4194432:=by omega
   have hL1:=hok.2.2.1
   have HS:=veil hst
   clear hcl h1 h2 hok hst hle h3 h4 hS
   generalize tgF fs i = T at *
   obtain ⟨L,hL⟩ : ∃ L,L = (bsF fs i).length:=⟨_,rfl⟩
   rw [← hL] at c1 hL1
   have HL:=veil hL
   clear hL
   have HRG:=veil (rng_fd c0 c1)
   clear c0 c1
   have hL2 : (L : Int) ≤ 65535:=by omega
   subst hAL
   go_upto_region 5 with (first
    | ((with_reducible refine zau 11 ?_); refine wpList_load_mid rfl 88 _ rfl b _ rfl _ _ HRG.out Tryz.underlying88 rfl infoF2 ?_)
    | ((with_reducible refine zau 5 ?_); refine zif _ _ rfl rfl rfl rfl rfl rfl hzF (fun _ => rfl) (fun _ => rfl) infoF2 rfl one_fd ?_; intro g W hg hW hEW))
   have hEE:=hE.trans hEW
   obtain ⟨d0,d1⟩:=zid hW
   clear hW hEW hE
   go_wp2
   go_roundw
   case rel => exact ⟨i + 1,by omega,by rw [HS.out,← HL.out]; simp,by go_num,hEE⟩
   case measure => simp [intOf]; omega
  ·
   obtain rfl : i = n:=by omega
   have e : encF (fs.take i) = encF fs:=by rw [HR.out.1,List.take_length]
   rw [e]
   go_wp2
   go_ret
   exact ⟨rfl,hE⟩
def szB (bs : List Nat) : Nat:=if bs.length < 3 then 3 else 3 + (256 * bs.getD 1 0 + bs.getD 2 0)
theorem sizeFirst_calls (A : Option Addr) (m c : Nat) (bs : List Nat) (hm : m = bs.length) (w : World) (hS : Bs w A bs) :
  Calls Tryz.prog 127 #[.slice A m c] w fun e w' => e = .returned (.int .i64 (szB bs : Nat)) ∧ Ext w w':=by
 have HS:=veil (And.intro hm hS)
 by_cases h3 : m < 3
 ·
  have hd : decide ((m : Int) < 3) = true:=by simp; omega
  have hs : szB bs = 3:=if_pos (by omega)
  have HZ:=veil hs
  rw [HZ.out]
  clear hm hS hs
  go_enter Tryz.func127,Tryz.ntmps127
  go_wp2
  go_ret
  exact ⟨rfl,Ext.refl _⟩
 ·
  have hd : decide ((m : Int) < 3) = false:=by simp; omega
  obtain ⟨b,o,hA,hbl,c1⟩:=hS.cell (j:=1) (by omega)
  obtain ⟨b',o',hA',_,c2⟩:=hS.cell (j:=2) (by omega)
  obtain ⟨e1,e2⟩ : b' = b ∧ o' = o:=by rw [hA] at hA'; injection hA' with h; injection h with h1 h2; exact ⟨h1.symm,h2.symm⟩
  subst e1 e2
  have l1:=hS.1.getD 1
  have l2:=hS.1.getD 2
  obtain ⟨X,hX⟩ : ∃ X,X = bs.getD 1 0:=⟨_,rfl⟩
  obtain ⟨Y,hY⟩ : ∃ Y,Y = bs.getD 2 0:=⟨_,rfl⟩
  rw [← hX] at c1 l1
  rw [← hY] at c2 l2
  have hs : szB bs = 3 + (256 * X + Y):=by unfold szB; rw [if_neg (by omega),hX,hY]
  have HZ:=veil hs
  rw [HZ.out]
  have k1 : (X : Int) ≤ 255:=by omega
  have k2 : (Y : Int) ≤ 255:=by omega
  have i1 : (1 : Int) < (m : Int):=by omega
  have i2 : (2 : Int) < (m : Int):=by omega
  clear hm hS hs hX hY l1 l2 hA' h3
  subst hA
  go_enter Tryz.func127,Tryz.ntmps127
  go_wp2
  go_quiet (fail)
  go_wp2
  go_ret
  refine ⟨?_,Ext.drewK _ _⟩
  show Ending.returned (.int .i64 (3 + (X : Int) * 256 + (Y : Int))) = _
  rw [show 3 + (X : Int) * 256 + (Y : Int) = ((3 + (256 * X + Y) : Nat) : Int) by omega]
theorem zgb (v : Value) (fs : List Fd) (w : World) (hF : Fl w v fs) (hL : fs.length ≤ 1000000000) :
  Calls Tryz.prog 109 #[v] w fun e w' => e = .returned (.bool (mayFs fs)) ∧ Ext w w':=by
 obtain ⟨hB,AL,c,rfl,hc,hx⟩:=hF
 obtain ⟨R,hR⟩ : ∃ R,R = mayFs fs:=⟨_,rfl⟩
 rw [← hR]
 obtain ⟨n,hn⟩ : ∃ n,n = fs.length:=⟨_,rfl⟩
 rw [← hn] at hx hc ⊢
 have HR:=veil (And.intro hR (And.intro hn hL))
 have HX:=veil hx
 have hnL : n ≤ 1000000000:=by omega
 clear hR hx hB hn hL
 by_cases h64 : (64 : Int) < (n : Int)
 ·
  have hd : decide ((64 : Int) < (n : Int)) = true:=decide_eq_true h64
  have e : R = false:=by
   rw [HR.out.1]
   exact decide_eq_false fun hh => by have:=hh.1; have:=HR.out.2.1; omega
  subst e
  go_enter Tryz.func109,Tryz.ntmps109
  go_wp2
  go_ret
  exact ⟨rfl,Ext.refl _⟩
 ·
  have hd : decide ((64 : Int) < (n : Int)) = false:=decide_eq_false h64
  have hn64 : n ≤ 64:=by omega
  clear hnL h64
  go_enter Tryz.func109,Tryz.ntmps109
  go_wp2
  go_loopw [3,11] (fun s v wr => ∃ (i : Nat) (P : Int),i ≤ n ∧ s = .int .i64 P ∧ v = .int .i64 (i : Int) ∧ (∀ j,j < i → okF fs j) ∧ 0 ≤ P ∧ P ≤ 255 ∧ (i = 0 ∧ P = 0 ∨ 0 < i ∧ P = tgF fs (i - 1)) ∧ Ext w wr)
   (fun _ v _ => n - (intOf v).toNat)
  case atStart => exact ⟨0,0,by omega,rfl,rfl,fun j hj => by omega,by omega,by omega,.inl ⟨rfl,rfl⟩,Ext.refl _⟩
  case round =>
   obtain ⟨i,P,hi,rfl,rfl,hall,hP0,hP1,hP,hE⟩:=hrel
   by_cases hlt : i < n
   ·
    have hd1 : decide ((i : Int) < (n : Int)) = true:=by simp; omega
    have hii : (i : Int) < (n : Int):=by omega
    obtain ⟨b,o,hAL,hb,hcl⟩:=HX.out.resolve_left (by omega)
    obtain ⟨h1,A,c',h2,_,_⟩:=hcl i hlt
    have c0:=(hE.cell hb).trans h1
    have c1:=(hE.cell hb).trans h2
    obtain ⟨T,hT⟩ : ∃ T,T = tgF fs i:=⟨_,rfl⟩
    obtain ⟨L,hL⟩ : ∃ L,L = (bsF fs i).length:=⟨_,rfl⟩
    rw [← hT] at c0
    rw [← hL] at c1
    have HT:=veil (And.intro hT (And.intro hL hP))
    have HALL:=veil hall
    have hfalse : ∀ h : ¬ okF fs i,R = false:=fun h => HR.out.1.trans (mayFs_false (by have:=HR.out.2.1; omega) h)
    have HF:=veil hfalse
    have HRG:=veil (rng_fd c0 c1)
    clear h1 h2 hT hL hall hfalse hP c0 c1 hcl
    subst hAL
    go_upto_region 7 with (first
     | ((with_reducible refine zau 14 ?_); refine wpList_load_mid rfl 88 _ rfl b _ rfl _ _ HRG.out Tryz.underlying88 rfl infoF2 ?_)
     | ((with_reducible refine zau 5 ?_); refine zif _ _ rfl rfl rfl rfl rfl rfl hzF (fun _ => rfl) (fun _ => rfl) infoF2 rfl one_fd ?_; intro g W hg hW hEW))
    have hEE:=hE.trans hEW
    obtain ⟨d0,d1⟩:=zid hW
    clear hW hEW hE
    by_cases g1 : T ≤ P
    ·
     have e : R = false:=HF.out fun h => by
      have h4:=h.2.2.2
      have h1:=h.1
      rw [← HT.out.1] at h1 h4
      rcases HT.out.2.2 with ⟨_,h0⟩ | ⟨h0,h5⟩
      ·
       omega
      ·
       have:=h4 h0; omega
     subst e
     have hd2 : decide (T ≤ P) = true:=decide_eq_true g1
     go_wp2
     go_ret
     exact ⟨rfl,hEE⟩
    ·
     have hd2 : decide (T ≤ P) = false:=decide_eq_false g1
     by_cases g2 : 255 < T
     ·
      have e : R = false:=HF.out fun h => by have:=h.2.1; rw [← HT.out.1] at this; omega
      subst e
      have hd3 : decide (255 < T) = true:=decide_eq_true g2
      go_wp2
      go_ret
      exact ⟨rfl,hEE⟩
     ·
      have hd3 : decide (255 < T) = false:=decide_eq_false g2
      by_cases g3 : (65535 : Int) < (L : Int)
      ·
       have e : R = false:=HF.out fun h => by have:=h.2.2.1; rw [← HT.out.2.1] at this; omega
       subst e
       have hd4 : decide ((65535 : Int) < (L : Int)) = true:=decide_eq_true g3
       go_wp2
       go_ret
       exact ⟨rfl,hEE⟩
      ·
       have hd4 : decide ((65535 : Int) < (L : Int)) = false:=decide_eq_false g3
       go_wp2
       go_roundw
       case rel =>
        refine ⟨i + 1,T,by omega,rfl,by go_num,fun j hj => ?_,by omega,by omega,.inr ⟨by omega,HT.out.1⟩,hEE⟩
        by_cases e : j = i
        ·
         subst e
         refine ⟨by rw [← HT.out.1]; omega,by rw [← HT.out.1]; omega,by rw [← HT.out.2.1]; omega,fun h0 => ?_⟩
         rw [← HT.out.1]
         rcases HT.out.2.2 with ⟨h5,_⟩ | ⟨_,h5⟩ <;> omega
        ·
         exact HALL.out j (by omega)
       case measure => simp [intOf]; omega
   ·
    obtain rfl : i = n:=by omega
    have e : R = true:=by
     rw [HR.out.1,mayFs_len (by rw [← HR.out.2.1]; exact hall),← HR.out.2.1]
     exact decide_eq_true hn64
    subst e
    clear hall
    go_wp2
    go_ret
    exact ⟨rfl,hE⟩
theorem clone8_calls (A : Option Addr) (m c : Nat) (bs : List Nat) (hm : m = bs.length) (hle : m ≤ 1000000000) (w : World) (hS : Bs w A bs) :
  Calls Tryz.prog 128 #[.slice A m c] w fun e w' => ∃ A' c',e = .returned (.slice A' m c') ∧ Ext w w' ∧ m ≤ c' ∧ Bs w' A' bs ∧ Fresh w A' bs:=by
 have HS:=veil (And.intro hm hS)
 rcases A with _ | ad
 ·
  have h0 : m = 0:=by
   rcases hS.2 with h | ⟨_,_,h,_⟩
   ·
    omega
   ·
    cases h
  subst h0
  clear hm hS
  have ke : (binOp .eql 29 (.slice none 0 c) (.slice none 0 0)).run Tryz.prog w = .ok (.bool true) w:=by kernel_rfl
  go_enter Tryz.func128,Tryz.ntmps128
  go_wp2
  go_ret
  exact ⟨none,0,rfl,Ext.refl _,Nat.le_refl _,⟨HS.out.2.1,.inl HS.out.1.symm⟩,.inl HS.out.1.symm⟩
 ·
  have ke : (binOp .eql 29 (.slice (some ad) m c) (.slice none 0 0)).run Tryz.prog w = .ok (.bool false) w:=by kernel_rfl
  clear hm hS
  go_enter Tryz.func128,Tryz.ntmps128
  go_wp2_with ((with_reducible refine zau 7 ?_); refine wpl_append0 rfl rfl rfl rfl (zaw w _) (HS.out.2.ext (Ext.alloc w _)) HS.out.1 hle ?_; intro A' c' w2 hE2 hc' hB' hF')
  go_ret
  exact ⟨A',c',rfl,(Ext.alloc w _).trans hE2,hc',hB',hF'.imp id fun h b o e => Nat.le_trans (Below.size (Ext.alloc w _)) (h b o e)⟩
theorem infoTG : (Tryz.prog.info? 5).map (fun i => (i.zero,i.size,i.bytes)) = some (some (.int .u8 0),1,1):=by kernel_rfl
theorem put_no (v : Value) (fs : List Fd) (w : World) (hF : Fl w v fs) (hL : fs.length ≤ 1000000000) (hM : mayFs fs = false) :
  Calls Tryz.prog 57 #[v] w fun e w' => e = .returned (.tuple #[.slice none 0 0,.iface 35 (.int .i64 1)]) ∧ Ext w w':=by
 have KM:=veil (zgb v fs w hF hL)
 rw [hM] at KM
 clear hF hL hM
 go_enter Tryz.func57,Tryz.ntmps57
 go_wp2_with (go_at_call 109; refine KM.out.mono ?_; rintro e w1 ⟨rfl,hE1⟩)
 go_ret2
 exact ⟨rfl,hE1⟩
theorem put_yes (v : Value) (fs : List Fd) (w : World) (hF : Fl w v fs) (hM : mayFs fs = true) :
  Calls Tryz.prog 57 #[v] w fun e w' => ∃ A c,e = .returned (.tuple #[.slice A (encF fs).length c,.nilIface]) ∧ (encF fs).length ≤ c ∧ Bs w' A (encF fs) ∧ Ext w w':=by
 have h64:=mayFs_64 hM
 have KM:=veil (zgb v fs w hF (by omega))
 rw [hM] at KM
 have HF:=veil hF
 obtain ⟨hB,AL,c,rfl,hc,hx⟩:=hF
 obtain ⟨n,hn⟩ : ∃ n,n = fs.length:=⟨_,rfl⟩
 rw [← hn] at hx hc KM HF ⊢
 have HR:=veil (And.intro hn (And.intro hM hB))
 have HX:=veil hx
 have hnL : n ≤ 64:=by omega
 clear hx hB hn hM h64
 go_enter Tryz.func57,Tryz.ntmps57
 go_upto_region 3 with (go_at_call 109; refine KM.out.mono ?_; rintro e w1 ⟨rfl,hE1⟩)
 have KS:=veil (sizeOf_calls _ fs w1 (HF.out.ext hE1) HR.out.2.1)
 have HE1:=veil hE1
 have hle:=zhg HR.out.2.1 fs.length
 rw [List.take_length] at hle
 obtain ⟨S,hS⟩ : ∃ S,S = (encF fs).length:=⟨_,rfl⟩
 rw [← hS] at KS hle
 obtain ⟨i8,hi8,hz0,hz1,hz2⟩:=info_parts infoTG
 have HI:=veil (And.intro hi8 (And.intro hz0 (And.intro hz1 hz2)))
 clear hE1 KM hi8 hz0 hz1 hz2 hS
 go_upto_region 4 with (first
  | (go_at_call 110; refine KS.out.mono ?_; rintro e w2 ⟨rfl,hE2⟩)
  | ((with_reducible refine zau 14 ?_); refine wpList_make_own _ rfl _ _ 29 rfl w.heap.size 5 i8 (.int .u8 0) 1 Tryz.underlying29 HI.out.1 HI.out.2.1 HI.out.2.2.1 .i64 .i64 _ S rfl rfl rfl (by rw [HI.out.2.2.2]; omega) (by unfold maxLen; omega) (Below.size (HE1.out.trans hE2)) ?_; intro w3 hO3 hG3))
 have hE3 : Ext w w3:=(HE1.out.trans hE2).grown hG3 (Below.size (HE1.out.trans hE2)) fun k hk => by cases hk
 have hO : OwnB w3 w.heap.size (.slice (some ⟨w2.heap.size,0,none⟩) 0 S) []:=⟨(fun _ h => by cases h),hO3⟩
 clear hO3 hG3 hE2
 go_wp2
 go_loopw [4,17] (fun s v wr => ∃ i : Nat,i ≤ n ∧ OwnB wr w.heap.size s (encF (fs.take i)) ∧ v = .int .i64 (i : Int) ∧ Ext w wr)
  (fun _ v _ => n - (intOf v).toNat)
 case atStart => exact ⟨0,by omega,hO,rfl,hE3⟩
 case round =>
  obtain ⟨i,hi,hO,rfl,hE⟩:=hrel
  by_cases hlt : i < n
  ·
   have hd1 : decide ((i : Int) < (n : Int)) = true:=by simp; omega
   have hii : (i : Int) < (n : Int):=by omega
   have hok:=mayFs_ok HR.out.2.1 (by have:=HR.out.1; omega : i < fs.length)
   have hst:=encF_take fs (by have:=HR.out.1; omega : i < fs.length)
   have hle:=zhg HR.out.2.1 i
   obtain ⟨b,o,hAL,hb,hcl⟩:=HX.out.resolve_left (by omega)
   obtain ⟨h1,A,c',h2,h3,h4⟩:=hcl i hlt
   have c0:=(hE.cell hb).trans h1
   have c1:=(hE.cell hb).trans h2
   have hBS:=h4
   have hT1:=hok.1
   have hT2:=hok.2.1
   have hL1:=hok.2.2.1
   have HS:=veil (And.intro hst (And.intro hle hO))
   clear hcl h1 h2 hok hst hle h4 hO
   generalize tgF fs i = T at *
   generalize bsF fs i = D0 at *
   obtain ⟨L,hL⟩ : ∃ L,L = D0.length:=⟨_,rfl⟩
   rw [← hL] at c1 hL1 h3
   have HD:=veil (And.intro hL hBS)
   have HRG:=veil (rng_fd c0 c1)
   clear c0 c1 hL hBS
   have hL2 : (L : Int) ≤ 65535:=by omega
   subst hAL
   go_upto_region 7 with (first
    | ((with_reducible refine zau 20 ?_); refine wpList_load_mid rfl 88 _ rfl b _ rfl _ _ HRG.out Tryz.underlying88 rfl infoF2 ?_)
    | ((with_reducible refine zau 6 ?_); refine zif _ _ rfl rfl rfl rfl rfl rfl hzF (fun _ => rfl) (fun _ => rfl) infoF2 rfl one_fd ?_; intro g W hg hW hEW))
   have hEE:=hE.trans hEW
   have HW:=veil (And.intro hW (And.intro hEE hEW))
   obtain ⟨d0,d1⟩:=zid hW
   clear hW hEW hE hEE
   go_upto_region 9 with ((with_reducible refine zau 34 ?_); refine zbn _ rfl _ _ 29 rfl w.heap.size 5 i8 (.int .u8 0) 1 Tryz.underlying29 HI.out.1 HI.out.2.1 HI.out.2.2.1 HI.out.2.2.2 rfl _ _ _ rfl (HS.out.2.2.ext (HW.out.2.2.trans (Ext.alloc W _))).2 (some ⟨W.heap.size,0,none⟩) 3 3 rfl _ (hdr3 (zaw W _) hT1 hT2 hL1 HD.out.1).from (fun _ => rfl) (by unfold maxLen; have:=HS.out.2.1; omega) (by have:=HS.out.2.1; omega) (Nat.le_trans (Below.size HW.out.2.1) (Below.size (Ext.alloc W _))) ?_; intro v6 w6 hO6 hG6 _)
   have hEa:=HW.out.2.1.trans (Ext.alloc W (.cells #[.int .u8 T,.int .u8 ((L : Int) / 256),.int .u8 ((L : Int) % 256)] 5))
   have hE6 : Ext w w6:=hEa.grown hG6 (Below.size hEa) fun k hk => (HS.out.2.2.2.lt hk).1
   have hgl : g < (W.alloc (.cells #[.int .u8 T,.int .u8 ((L : Int) / 256),.int .u8 ((L : Int) % 256)] 5)).heap.size:=Nat.lt_of_lt_of_le (Array.getElem?_eq_some_iff.1 HW.out.1).1 (Below.size (Ext.alloc W _))
   have hg6 : w6.heap[g]? = some (.cells #[.int .i64 T,.slice A L c'] 88 (0,0)):=(hG6.block g hgl fun hk => by have:=(HS.out.2.2.2.lt hk.symm).2; omega).trans ((Ext.alloc W _).block HW.out.1)
   have hO7 : OwnB w6 w.heap.size v6 (encF (fs.take i) ++ hdr (T,D0)):=OwnB.append hO6 HS.out.2.2.1 (hdr_byt _) rfl rfl
   obtain ⟨e0,e1⟩:=zid hg6
   have hl3 : (encF (fs.take i) ++ hdr (T,D0)).length ≤ 4194435:=by rw [List.length_append]; have:=HS.out.2.1; show _ + 3 ≤ _; omega
   have H7:=veil (And.intro hO7 (And.intro hE6 (And.intro hg6 hl3)))
   have hfr:=(HD.out.2.ext hE6).from
   rw [← HD.out.1] at hfr
   have HFR:=veil hfr
   clear hO6 hG6 hEa hgl hg6 hO7 d0 d1 hl3 hfr hE6
   go_wp2_with ((with_reducible refine zau 38 ?_); refine zbn _ rfl _ _ 29 rfl w.heap.size 5 i8 (.int .u8 0) 1 Tryz.underlying29 HI.out.1 HI.out.2.1 HI.out.2.2.1 HI.out.2.2.2 rfl _ _ _ rfl H7.out.1.2 A L c' rfl _ HFR.out (fun _ => rfl) (by unfold maxLen; have:=H7.out.2.2.2; omega) (by have:=H7.out.2.2.2; omega) (Below.size H7.out.2.1) ?_; intro v8 w8 hO8 hG8 _)
   have hE8 : Ext w w8:=H7.out.2.1.grown hG8 (Below.size H7.out.2.1) fun k hk => (H7.out.1.2.lt hk).1
   have hO9 : OwnB w8 w.heap.size v8 (encF (fs.take i) ++ hdr (T,D0) ++ D0):=OwnB.append hO8 H7.out.1.1 HD.out.2.1 rfl HD.out.1
   rw [List.append_assoc] at hO9
   clear hO8 hG8
   go_roundw
   case rel => exact ⟨i + 1,by omega,by rw [HS.out.1]; exact hO9,by go_num,hE8⟩
   case measure => simp [intOf]; omega
  ·
   obtain rfl : i = n:=by omega
   have e : encF (fs.take i) = encF fs:=by rw [HR.out.1,List.take_length]
   rw [e] at hO
   obtain ⟨A,c2,rfl,hc2,hB2⟩:=hO.bs
   clear hO
   go_wp2
   go_ret2
   exact ⟨A,c2,rfl,hc2,hB2,hE⟩
theorem szB_long {D : List Nat} (h0 : 0 < D.length) (h : D.length < szB D) : parse D = none:=by
 unfold szB at h
 by_cases h3 : D.length < 3
 ·
  exact parse_two h3 h0
 ·
  rw [if_neg h3] at h
  have:=parse_long (bs:=D) (a:=0) (n:=256 * D.getD 1 0 + D.getD 2 0) (by omega) rfl (by omega)
  rwa [List.drop_zero] at this
theorem szB_3 {D : List Nat} (h : szB D ≤ D.length) : 3 ≤ D.length:=by
 unfold szB at h
 by_cases h3 : D.length < 3
 ·
  rw [if_pos h3] at h; omega
 ·
  omega
theorem szB_ge (D : List Nat) : 3 ≤ szB D:=by unfold szB; split <;> omega
theorem szB_step {D : List Nat} {N : Nat} (hN : szB D = 3 + N) (h3 : 3 ≤ D.length) (h : 3 + N ≤ D.length) :
  parse D = (parse (D.drop (3 + N))).map ((((D.getD 0 0 : Nat) : Int),(D.drop 3).take N) :: ·):=by
 unfold szB at hN
 rw [if_neg (by omega)] at hN
 have:=parse_more (bs:=D) (a:=0) (n:=N) (by omega) (by show N = 256 * D.getD 1 0 + D.getD 2 0; omega) (by omega)
 rwa [List.drop_zero,Nat.zero_add] at this
theorem get_of_false {bs D : List Nat} {fs : List Fd} (h : parse bs = (parse D).map (fs ++ ·)) (hl : 64 < fs.length) : getFs bs = none:=by
 rw [zcv,h]
 cases parse D with
 | none => rfl
 | some x =>
  have hm : mayFs (fs ++ x) = false:=decide_eq_false fun hh => by have:=hh.1; rw [List.length_append] at this; omega
  simp [hm]
def lenV : Value → Nat
 | .slice _ n _ => n
 | _ => 0
theorem run_slice_lowv {P : Program} {o : Oper} {a : Act} {t : TypeId} {x z : Operand} {v v' vz : Value} {W : World} (ho : o.op = .slice t x (some z) none none) (hx : a.eval x = v) (hz : a.eval z = vz)
  (h : (Instr.sliceAt t v (some vz) none none).run P W = .ok v' W) : (execOp a.eval o).run P W = .ok (.value v') W:=by
 unfold execOp
 simp only [ho,hx,hz,Option.map_some,Option.map_none,Sem.run_bind,h,Result.andThen_ok,Sem.run_pure]
theorem cut_from8 (A : Option Addr) (r c m : Nat) (hm : m ≤ r) (w : World) {y : Int} (hy : y = (m : Int)) : (Instr.sliceAt 29 (.slice A r c) (some (.int .i64 y)) none none).run Tryz.prog w = .ok (.slice (cutA A m c) (r - m) (c - m)) w:=by
 subst hy
 exact cut_from A r c m hm w
theorem bs_drop {w : World} {A : Option Addr} {D : List Nat} {c : Nat} (h : Bs w A D) (m : Nat) (hm : m ≤ D.length) (hc : D.length ≤ c) : Bs w (cutA A m c) (D.drop m):=by
 have:=h.cut m (n:=D.length - m) (by omega) hc
 rwa [List.take_of_length_le (by rw [List.length_drop]; omega)] at this
theorem zen {P : Program} {Q : Exit → Act → World → Prop} {l : List Oper} {n k i d : Nat} {r : Sched} {a : Act} {w : World} {xs : List Operand} {ts : Array TypeId} {args : List Value} {R : Value → World → Prop} (o : Oper) (ho : l[i]? = some o) (hg : o.guard = none) (hd : o.dst = some d)
  (hop : o.op = .call { callee:=.value (.func k),args:=xs.toArray,argTypes:=ts }) (hx : xs.map a.eval = args)
  (he : ∀ W,(callFunc k args.toArray).run P W = .ok (.enter k args.toArray) W) (hc : ∀ W,Ext w W → Calls P k args.toArray W fun e W' => ∃ v,e = .returned v ∧ Ext W W' ∧ R v W')
  (h : ∀ v W,Ext w W → R v W → wpSched P l Q n r (a.put (some d) v) W) : wpSched P l Q n ((false,[i]) :: r) a w:=by
 refine zem o ho hg fun W hW => ?_
 have h1 : execOp a.eval o = callFunc k (#[] ++ xs.toArray.map a.eval ++ #[]):=by
  cases o
  subst hop
  rfl
 have h2 : (execOp a.eval o).run P W = .ok (.enter k args.toArray) W:=by
  rw [h1,List.map_toArray,hx]
  simpa using he W
 unfold Oper.wp
 rw [h2,Oper.upon_enter]
 refine (hc W hW).mono ?_
 rintro e W' ⟨v,rfl,hE,hR⟩
 show (i < n → Ext W W') ∧ _
 rw [hd]
 exact ⟨fun _ => hE,h v W' (hW.trans hE) hR⟩
theorem zgc {P : Program} {f : FuncId} {fn : Func} {c : Code} (hf : P.funcs[f]? = some fn) (hname : (fn.name == "runtime.NumGoroutine") = false) (hb : fn.body = some c) (args : Array Value) (w : World) :
  (callFunc f args).run P w = .ok (.enter f args) w:=by
 have hn : ¬ fn.name = "runtime.NumGoroutine":=by simpa using hname
 simp [callFunc,go_sem,hf,hb,hn]
theorem get8_calls (A : Option Addr) (m c : Nat) (bs : List Nat) (hm : m = bs.length) (hmc : m ≤ c) (hle : m ≤ 100000000) (w : World) (hS : Bs w A bs) :
  Calls Tryz.prog 81 #[.slice A m c] w fun e w' => ∃ x ev,e = .returned (.tuple #[x,ev]) ∧ Ext w w' ∧ GetA w' bs x ev:=by
 have HS:=veil (And.intro hm (And.intro hmc (And.intro hS hle)))
 clear hS hm hmc hle
 go_enter Tryz.func81,Tryz.ntmps81
 go_wp2
 go_loopw [0,4] (fun s v wr => ∃ (A : Option Addr) (m c : Nat) (D : List Nat) (fs : List Fd),s = .slice A m c ∧ m = D.length ∧ m ≤ c ∧ m ≤ 100000000 ∧ Bs w A D ∧ OwnFs wr w.heap.size v fs ∧ fs.length ≤ 65 ∧ parse bs = (parse D).map (fs ++ ·) ∧ Ext w wr)
  (fun s _ _ => lenV s)
 case atStart => exact ⟨A,m,c,bs,[],rfl,HS.out.1,HS.out.2.1,HS.out.2.2.2,HS.out.2.2.1,OwnFs.nil _ _,by simp,by simp,Ext.refl _⟩
 case round =>
  obtain ⟨A,m,c,D,fs,rfl,hm,hmc,hle,hB,hO,hfl,hpar,hE⟩:=hrel
  have HO:=veil (And.intro hO (And.intro hfl hpar))
  have HB:=veil (And.intro hm (And.intro hB hmc))
  obtain ⟨AL,cl,hv,hcl,_⟩:=hO.fl.2
  obtain ⟨k,hk⟩ : ∃ k,k = fs.length:=⟨_,rfl⟩
  rw [← hk] at hv hcl hfl
  have HK:=veil hk
  clear hO hpar hm hB hk
  have KM:=veil (zgb _ fs wr HO.out.1.fl (by have:=HK.out; omega))
  subst hv
  by_cases hlt : 0 < m
  ·
   have hd1 : decide ((0 : Int) < (m : Int)) = true:=by simp; omega
   have hd1' : decide (0 < m) = true:=by simp; omega
   by_cases hk : (k : Int) ≤ 64
   ·
    have hd2 : decide ((k : Int) ≤ 64) = true:=decide_eq_true hk
    have KZ:=veil (sizeFirst_calls A m c D HB.out.1 wr (HB.out.2.1.ext hE))
    have HZ3:=szB_ge D
    obtain ⟨N,hN⟩ : ∃ N,szB D = 3 + N:=⟨szB D - 3,by omega⟩
    rw [hN] at KZ
    have HN:=veil hN
    clear HZ3 hN
    go_upto_region 4 with (go_at_call 127; refine KZ.out.mono ?_; rintro e w1 ⟨rfl,hE1⟩)
    have HE1:=veil (hE.trans hE1)
    have hO1:=HO.out.1.keep hE1
    have HO1:=veil hO1
    clear hO1 KM hE1 KZ
    by_cases h4 : m < 3 + N
    ·
     have hd3 : decide ((m : Int) < 3 + (N : Int)) = true:=by simp; omega
     have hn : getFs bs = none:=by
      rw [zcv,HO.out.2.2,szB_long (by have:=HB.out.1; omega) (by have:=HB.out.1; rw [HN.out]; omega)]
      rfl
     go_wp2
     go_ret2
     exact ⟨_,_,rfl,HE1.out,.inl ⟨hn,⟨none,0,rfl⟩,rfl⟩⟩
    ·
     have hd3 : decide ((m : Int) < 3 + (N : Int)) = false:=by simp; omega
     have h3m : 3 ≤ m:=by have:=HB.out.1; have:=szB_3 (D:=D) (by rw [HN.out]; omega); omega
     have hst:=szB_step HN.out (by have:=HB.out.1; omega : 3 ≤ D.length) (by have:=HB.out.1; omega)
     have hbt:=HB.out.2.1.ext HE1.out
     obtain ⟨b,o,hA,hbl,c0⟩:=hbt.cell (j:=0) (by have:=HB.out.1; omega)
     rw [Nat.add_zero] at c0
     have l0:=HB.out.2.1.1.getD 0
     obtain ⟨T,hT⟩ : ∃ T,T = D.getD 0 0:=⟨_,rfl⟩
     rw [← hT] at c0 l0 hst
     have k0 : (T : Int) ≤ 255:=by omega
     have i0 : (0 : Int) < (m : Int):=by omega
     have HST:=veil (And.intro hst hbt)
     have hbd:=bs_drop (c:=c) HB.out.2.1 (3 + N) (by have:=HB.out.1; omega) (by have:=HB.out.1; omega)
     have HBD:=veil hbd
     clear hst hbt hT l0 hbd
     subst hA
     go_upto_region 6 with (fail)
     refine zfr 11 [(true,[0,1,2,3,4,5,6,7]),(false,[8]),(true,[9]),(false,[10]),(false,[11]),(false,[12])] (by kernel_rfl) (by kernel_rfl) fun Q' hQ' => ?_
     refine' zdc (A:=_) _ rfl (by kernel_rfl) ?h1 ?h2
     case h1 =>
      intro D' hD hN'
      have d0:=hD.cell c0
      simp only [pickI,consO,List.getElem?_cons_zero,List.getElem?_cons_succ]
      iterate 7 (go_big_quiet_step (fail))
      go_big_quiet_want
      refine zdm (.slice (cutA (some ⟨b,o,none⟩) 3 c) N (c - 3)) (fun x => run_slice_v rfl rfl rfl rfl (cut_mid _ _ _ 3 N (by omega) _ rfl (by omega))) ?_
      simp only [aP,lA,lZ,lS]
      go_big_quiet_on
      exact zew
     have hl : N = ((D.drop 3).take N).length:=by rw [List.length_take,List.length_drop]; have:=HB.out.1; omega
     have hBc:=HST.out.2.cut 3 (n:=N) (c:=c) (by have:=HB.out.1; omega) (by have:=HB.out.1; omega)
     have HC:=veil (And.intro hl hBc)
     clear hl hBc
     refine zen (R:=fun v W => ∃ A' c',v = .slice A' N c' ∧ N ≤ c' ∧ Bs W A' ((D.drop 3).take N) ∧ Fresh w1 A' ((D.drop 3).take N)) _ rfl rfl rfl rfl rfl (zgc Tryz.func128 rfl rfl _) (fun W hW => (clone8_calls _ N (c - 3) ((D.drop 3).take N) HC.out.1 (by omega) W (HC.out.2.ext hW)).mono fun e W' ⟨A',c',he,hE',hc',hB',hF'⟩ => ⟨_,he,hE',A',c',rfl,hc',hB',hF'.imp id fun h b o e => Nat.le_trans (Below.size hW) (h b o e)⟩) ?_
     rintro _ W2 hE2 ⟨A',c',rfl,hc',hB',hF'⟩
     simp only [aP,lA,lZ,lS]
     refine' zdc (A:=_) _ rfl (by kernel_rfl) ?k1 ?k2
     case k1 =>
      intro D' hD hN'
      simp only [pickI,consO,List.getElem?_cons_zero,List.getElem?_cons_succ]
      repeat (go_big_quiet_step (fail))
      exact zew
     refine zgh (vs:=[(0,.agg #[.int .i64 (T : Int),.slice A' N c'])]) (C:=#[.int .i64 (T : Int),.slice A' N c']) (e:=88) _ rfl rfl rfl rfl rfl (fun W => by simp [Instr.buildSlice,go_sem]) ?_
     intro g2 W3 hg2 hgb2 hE3
     simp only [aP,lA,lZ,lS]
     have hEW3:=hE2.trans hE3
     have hown3:=HO1.out.keep hEW3
     have hoff : Off A' ((D.drop 3).take N) (Value.ownBlock (.slice AL k cl)):=hF'.off fun k hk => (HO1.out.lt hk).2
     have hBn:=hB'.ext hE3
     have hbase:=Nat.le_trans (Below.size HE1.out) (Below.size hEW3)
     have hNl:=HC.out.1
     have hfl9 : fs.length ≤ 1000000000:=by have:=HK.out; omega
     rw [hNl] at hgb2 hc'
     refine zhi (f:=((T : Int),(D.drop 3).take N)) (al:=(A',c')) _ rfl rfl rfl rfl rfl rfl (by decide) hown3 hgb2 hc' hBn hoff hfl9 hbase ?_
     intro v' W4 W5 hE4 hO5 hG5
     simp only [aP,lA,lZ,lS]
     have hE5 : Ext w W5:=(HE1.out.trans (hEW3.trans hE4)).grown hG5 (Below.size (HE1.out.trans (hEW3.trans hE4))) fun k hk => (HO1.out.lt hk).1
     have HO5:=veil (And.intro hO5 hE5)
     clear hown3 hoff hBn hbase hNl hgb2 hc' hO5 hE5 hG5
     refine zha v' _ rfl rfl rfl rfl rfl ?_
     intro W6 hE6
     simp only [aP,lA,lZ,lS]
     refine zep hQ' fun W7 hE7 => ?_
     have hle3 : 3 + N ≤ m:=by omega
     go_wp2_with ((with_reducible refine zau 35 ?_); refine wpl_val (.slice (cutA (some ⟨b,o,none⟩) (3 + N) c) (m - (3 + N)) (c - (3 + N))) rfl (run_slice_lowv rfl rfl rfl (cut_from8 _ _ _ (3 + N) hle3 _ (by omega))) ?_)
     go_roundw
     case rel =>
      refine ⟨_,m - (3 + N),c - (3 + N),D.drop (3 + N),fs ++ [((T : Int),(D.drop 3).take N)],rfl,by rw [List.length_drop,← HB.out.1],by omega,by omega,HBD.out,(HO5.out.1.keep hE6).keep hE7,?_,?_,HO5.out.2.trans (hE6.trans hE7)⟩
      ·
       rw [List.length_append,List.length_singleton]; have:=HK.out; omega
      ·
       rw [HO.out.2.2,HST.out.1]
       cases parse (D.drop (3 + N)) with
       | none => rfl
       | some x => simp
     case measure => simp [lenV]; omega
   ·
    have hd2 : decide ((k : Int) ≤ 64) = false:=decide_eq_false hk
    have hmay : mayFs fs = false:=decide_eq_false fun hh => by have:=hh.1; have:=HK.out; omega
    rw [hmay] at KM
    have HE:=veil hE
    clear hE hmay
    go_wp2_with (go_at_call 109; refine KM.out.mono ?_; rintro e w2 ⟨rfl,hE2⟩)
    go_ret2
    exact ⟨_,_,rfl,HE.out.trans hE2,.inl ⟨get_of_false HO.out.2.2 (by have:=HK.out; omega),⟨none,0,rfl⟩,rfl⟩⟩
  ·
   have hd1 : decide ((0 : Int) < (m : Int)) = false:=by simp; omega
   have hd1' : decide (0 < m) = false:=by simp; omega
   have hp : parse bs = some fs:=by
    rw [HO.out.2.2,List.length_eq_zero_iff.1 (show D.length = 0 by have:=HB.out.1; omega),parse_nil]
    simp
   have HP:=veil (And.intro hE (And.intro hp HO.out.1.fl))
   cases hmay : mayFs fs with
   | false =>
    rw [hmay] at KM
    have hn : getFs bs = none:=by
     rw [zcv,hp]
     simp [hmay]
    have HN:=veil hn
    clear hE hmay hp hn
    go_wp2_with (go_at_call 109; refine KM.out.mono ?_; rintro e w2 ⟨rfl,hE2⟩)
    go_ret2
    exact ⟨_,_,rfl,HP.out.1.trans hE2,.inl ⟨HN.out,⟨none,0,rfl⟩,rfl⟩⟩
   | true =>
    rw [hmay] at KM
    have hn : getFs bs = some fs:=by
     rw [zcv,hp]
     simp [hmay]
    have HN:=veil hn
    clear hE hmay hp hn
    go_wp2_with (go_at_call 109; refine KM.out.mono ?_; rintro e w2 ⟨rfl,hE2⟩)
    go_ret2
    exact ⟨_,_,rfl,HP.out.1.trans hE2,.inr ⟨fs,HN.out,rfl,HP.out.2.2.ext hE2⟩⟩
end Go.Proofs.YtedehdbajiaaiaaGreatDoor
