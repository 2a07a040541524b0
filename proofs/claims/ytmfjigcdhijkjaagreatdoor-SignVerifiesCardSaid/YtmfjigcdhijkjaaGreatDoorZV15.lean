/-
  Of QArg FMath FBase Mul64 MulMath Half IsH M4 M5 NS1 NS2 Yif.
-/
import Derived.Deep.Strs
import Derived.Test.YtmfjigcdhijkjaaGreatDoorRows
import Derived.WalkKit
import Derived.WalkSpells
import Derived.WalkLawsBesides
import Derived.Deep.LoopGhost
import Derived.Deep.RegionWith
import Derived.Deep.RegionHeld3
import Derived.Deep.QuietTactic
import Derived.BigQuiet
import Derived.Laws.CopyOwn
import Derived.Deep.CutBlock
import Derived.Deep.MidRow
import Derived.Test.YtmfjigcdhijkjaaGreatDoorZV6
import Derived.Test.YtmfjigcdhijkjaaGreatDoorZV11
import Derived.Test.YtmfjigcdhijkjaaGreatDoorZV1
import Derived.Test.YtmfjigcdhijkjaaGreatDoorZV2
import Derived.Test.YtmfjigcdhijkjaaGreatDoorZV7
import Derived.Test.YtmfjigcdhijkjaaGreatDoorZV8
set_option maxRecDepth 1000000
set_option maxHeartbeats 20000000
namespace Go.Proofs.YtmfjigcdhijkjaaGreatDoor
open Go.ChangeShapes Go.WideShapes Go.ChangeAt Go.RowKit
def pointD {H : Type} (X Y : Nat) (f : Bool) : DataW H:=.agg [numD X,numD Y,.lit (.bool f)]
theorem array9 {cs : Array Value} (h : cs.size = 9) : ∃ c0 c1 c2 c3 c4 c5 c6 c7 c8,cs = #[c0,c1,c2,c3,c4,c5,c6,c7,c8]:=by
 obtain ⟨l⟩:=cs
 match l,h with
 | [c0,c1,c2,c3,c4,c5,c6,c7,c8],_ => exact ⟨c0,c1,c2,c3,c4,c5,c6,c7,c8,rfl⟩
section
variable {H : Type} {enc : TypeId × Value → H}
theorem zfs {W : World} {base : Nat} {sp : Nat → Bool} {hd : Bool} {fuel : Nat} {c0 c1 c2 c3 : Value} {x : DataW H × List MemPlace} (hf : DataW.trod enc Tryz.prog W base sp hd fuel 24 [c0,c1,c2,c3] = some x) :
  ∃ X,X < top ∧ c0 = .int .u64 (wd X 0) ∧ c1 = .int .u64 (wd X 1) ∧ c2 = .int .u64 (wd X 2) ∧ c3 = .int .u64 (wd X 3) ∧ x = (numD X,[]):=by
 obtain ⟨y0,y1,y2,y3,m,hx,hy0,hy1,hy2,hy3⟩:=trod_array4 Tryz.underlying24 cellsWord hf
 obtain ⟨x0,e0,rfl,w0⟩:=DataW.trod_int Tryz.underlying22 hy0
 obtain ⟨x1,e1,rfl,w1⟩:=DataW.trod_int Tryz.underlying22 hy1
 obtain ⟨x2,e2,rfl,w2⟩:=DataW.trod_int Tryz.underlying22 hy2
 obtain ⟨x3,e3,rfl,w3⟩:=DataW.trod_int Tryz.underlying22 hy3
 simp at e0 e1 e2 e3
 subst e0 e1 e2 e3
 subst hx
 obtain ⟨a0,b0⟩:=wf_u64 w0
 obtain ⟨a1,b1⟩:=wf_u64 w1
 obtain ⟨a2,b2⟩:=wf_u64 w2
 obtain ⟨a3,b3⟩:=wf_u64 w3
 obtain ⟨g0,g1,g2,g3⟩:=wd_ofWords a0 b0 a1 b1 a2 b2 a3 b3
 refine ⟨ofWords x0 x1 x2 x3,ofWords_lt b0 b1 b2 b3,?_,?_,?_,?_,?_⟩
 ·
  rw [g0]
 ·
  rw [g1]
 ·
  rw [g2]
 ·
  rw [g3]
 ·
  unfold numD
  rw [g0,g1,g2,g3]
  rfl
theorem open_point {W : World} {base : Nat} {v : Value} {d : DataW H} {p : List MemPlace} (hv : Value.okWide Tryz.prog W .any base 29 v) (h : DataW.Trod enc Tryz.prog W 0 (fun _ => true) true 29 v d p) :
  ∃ X Y f,X < top ∧ Y < top ∧ v = .agg #[.int .u64 (wd X 0),.int .u64 (wd X 1),.int .u64 (wd X 2),.int .u64 (wd X 3),.int .u64 (wd Y 0),.int .u64 (wd Y 1),.int .u64 (wd Y 2),.int .u64 (wd Y 3),.bool (f)] ∧ d = pointD X Y f ∧ p = []:=by
 obtain ⟨cs,rfl,hsz⟩:=okWide_struct Tryz.underlying29 hv
 rw [zhf] at hsz
 obtain ⟨c0,c1,c2,c3,c4,c5,c6,c7,c8,rfl⟩:=array9 hsz
 obtain ⟨fuel,hf⟩:=h
 obtain ⟨y0,y1,y2,m,hx,_,hy0,hy1,hy2⟩:=Deep.trod_struct3 Tryz.underlying29 hf
 have hy0 : DataW.trod enc Tryz.prog W 0 (fun _ => true) true m 24 [c0,c1,c2,c3] = some y0:=by simpa [Value.cells,zdw] using hy0
 have hy1 : DataW.trod enc Tryz.prog W 0 (fun _ => true) true m 24 [c4,c5,c6,c7] = some y1:=by simpa [Value.cells,zdw] using hy1
 have hy2 : DataW.trod enc Tryz.prog W 0 (fun _ => true) true m 4 [c8] = some y2:=by simpa [Value.cells,zid] using hy2
 obtain ⟨X,lX,rfl,rfl,rfl,rfl,rfl⟩:=zfs hy0
 obtain ⟨Y,lY,rfl,rfl,rfl,rfl,rfl⟩:=zfs hy1
 obtain ⟨f,e,rfl⟩:=DataW.trod_bool Tryz.underlying4 hy2
 obtain rfl:=List.head_eq_of_cons_eq e
 simp only [Prod.mk.injEq,List.append_nil] at hx
 obtain ⟨rfl,rfl⟩:=hx
 exact ⟨X,Y,f,lX,lY,rfl,rfl,rfl⟩
theorem shut_point (W : World) (base : Nat) (sp : Nat → Bool) (hd : Bool) (X Y : Nat) (f : Bool) : DataW.Trod enc Tryz.prog W base sp hd 29 (.agg #[.int .u64 (wd X 0),.int .u64 (wd X 1),.int .u64 (wd X 2),.int .u64 (wd X 3),.int .u64 (wd Y 0),.int .u64 (wd Y 1),.int .u64 (wd Y 2),.int .u64 (wd Y 3),.bool (f)]) (pointD X Y f) [] :=
 ⟨3,by simp [pointD,numD,DataW.trod,Value.cells,Tryz.underlying29,Tryz.underlying24,Tryz.underlying22,Tryz.underlying4,zhf,zdw,zic,zid,wf_wd,show List.range 4 = [0,1,2,3] from rfl]⟩
end
end Go.Proofs.YtmfjigcdhijkjaaGreatDoor
namespace Go.Proofs.YtmfjigcdhijkjaaGreatDoor
def top8 : Nat:=w64 ^ 8
theorem zii : top8 = top * top:=by unfold top8 top; rw [← Nat.pow_add]
theorem zig : w64 = 18446744073709551616:=rfl
theorem div_succ' (B n i : Nat) : n / B ^ (i + 1) = n / B ^ i / B:=by rw [Nat.pow_succ,Nat.div_div_eq_div_mul]
theorem setw {B : Nat} (hB : 0 < B) (Z k n v : Nat) (hk : k < n) (hZ : Z < B ^ n) (hv : v < B) :
  ∃ Z',Z' < B ^ n ∧ (∀ m,dg B Z' m = if m = k then v else dg B Z m) ∧ Z' + B ^ k * dg B Z k = Z + B ^ k * v:=by
 have hP : 0 < B ^ k:=Nat.pow_pos hB
 have e1 : B ^ k * (Z / B ^ k) + Z % B ^ k = Z:=Nat.div_add_mod _ _
 have e2 : B * (Z / B ^ k / B) + Z / B ^ k % B = Z / B ^ k:=Nat.div_add_mod _ _
 have hr:=Nat.mod_lt Z hP
 have hq : Z / B ^ k / B < B ^ (n - (k + 1)):=by
  rw [← div_succ',Nat.div_lt_iff_lt_mul (Nat.pow_pos hB),← Nat.pow_add,show n - (k + 1) + (k + 1) = n by omega]; exact hZ
 have hn : B ^ n = B ^ k * (B * B ^ (n - (k + 1))):=by
  rw [← Nat.mul_assoc,← Nat.pow_succ,← Nat.pow_add]; congr 1; omega
 have hd : dg B Z k = Z / B ^ k % B:=rfl
 have hdm : ∀ j,dg B Z (k + 1 + j) = Z / B ^ k / B / B ^ j % B:=by
  intro j; unfold dg; rw [Nat.pow_add,← Nat.div_div_eq_div_mul,div_succ']
 have hlo : ∀ j,j < k → dg B Z j = dg B (Z % B ^ k) j:=fun j hj => (zdj Z k j hj).symm
 rw [hd,hn]
 clear hd hn hZ
 generalize Z / B ^ k / B = q at *
 generalize Z / B ^ k % B = d at *
 generalize Z / B ^ k = a at *
 generalize Z % B ^ k = r at *
 have hz : r + B ^ k * (v + B * q) = r + B ^ k * v + B ^ k * (B * q):=by rw [Nat.mul_add,Nat.add_assoc]
 refine ⟨r + B ^ k * (v + B * q),?_,?_,?_⟩
 ·
  have : v + B * q + 1 ≤ B * B ^ (n - (k + 1)):=by
   have : B * (q + 1) ≤ B * B ^ (n - (k + 1)):=Nat.mul_le_mul_left _ hq
   rw [Nat.mul_add] at this; omega
  have:=Nat.mul_le_mul_left (B ^ k) this
  rw [Nat.mul_add] at this; omega
 ·
  have hdiv : (r + B ^ k * (v + B * q)) / B ^ k = v + B * q:=by
   rw [Nat.add_mul_div_left _ _ hP,Nat.div_eq_of_lt hr,Nat.zero_add]
  intro m
  by_cases h : m = k
  ·
   rw [if_pos h,h]
   unfold dg
   rw [hdiv,Nat.add_mul_mod_self_left,Nat.mod_eq_of_lt hv]
  ·
   rw [if_neg h]
   by_cases hlt : m < k
   ·
    rw [← zdj _ k m hlt,Nat.add_mul_mod_self_left,Nat.mod_eq_of_lt hr,hlo m hlt]
   ·
    obtain ⟨j,rfl⟩ : ∃ j,m = k + 1 + j:=⟨m - (k + 1),by omega⟩
    rw [hdm]
    unfold dg
    rw [Nat.pow_add,← Nat.div_div_eq_div_mul,div_succ',hdiv,Nat.add_mul_div_left _ _ hB,Nat.div_eq_of_lt hv,Nat.zero_add]
 ·
  rw [hz,← e1,← e2,Nat.mul_add]
  omega
theorem setwd (Z k : Nat) (v : Int) (hk : k < 8) (hZ : Z < top8) (h0 : 0 ≤ v) (h1 : v ≤ 18446744073709551615) :
  ∃ Z',Z' < top8 ∧ (∀ m,wd Z' m = if m = k then v else wd Z m) ∧ Z' + w64 ^ k * dg w64 Z k = Z + w64 ^ k * v.toNat:=by
 obtain ⟨Z',a,b,c⟩:=setw zbd Z k 8 v.toNat hk hZ (by unfold w64; omega)
 refine ⟨Z',a,fun m => ?_,c⟩
 unfold wd
 rw [b m]
 split
 ·
  omega
 ·
  rfl
theorem col_step {B Z Z' Z0 t m c c' x i j M : Nat} (hM : m = dg B M j) (e : Z + c * B ^ (i + j) = Z0 + t * (M % B ^ j) * B ^ i)
  (hx : x + B * c' = t * m + c + dg B Z (i + j)) (hZ : Z' + B ^ (i + j) * dg B Z (i + j) = Z + B ^ (i + j) * x) :
  Z' + c' * B ^ (i + (j + 1)) = Z0 + t * (M % B ^ (j + 1)) * B ^ i:=by
 rw [zcy,← hM,← Nat.add_assoc i j 1,Nat.pow_succ B (i + j)]
 have h1 : t * (M % B ^ j + B ^ j * m) * B ^ i = t * (M % B ^ j) * B ^ i + B ^ (i + j) * (t * m):=by
  rw [Nat.mul_add,Nat.add_mul,Nat.pow_add]
  congr 1
  rw [Nat.mul_left_comm t,Nat.mul_comm (B ^ i),Nat.mul_comm (B ^ j * B ^ i),Nat.mul_comm (B ^ j),Nat.mul_assoc]
 have h2:=congrArg (fun z => B ^ (i + j) * z) hx
 simp only [Nat.mul_add] at h2
 rw [h1]
 have h3 : c' * (B ^ (i + j) * B) = B ^ (i + j) * (B * c'):=by rw [Nat.mul_comm c',Nat.mul_assoc]
 rw [h3]
 rw [Nat.mul_comm c] at e
 generalize B ^ (i + j) * (B * c') = p1 at *
 generalize B ^ (i + j) * (t * m) = p2 at *
 generalize B ^ (i + j) * c = p3 at *
 generalize B ^ (i + j) * dg B Z (i + j) = p4 at *
 generalize B ^ (i + j) * x = p5 at *
 omega
theorem low_dvd {B Z : Nat} {k : Nat} (h : Z % B ^ k = 0) : Z = B ^ k * (Z / B ^ k):=by
 have:=Nat.div_add_mod Z (B ^ k); omega
theorem row_done {B X M Z Z1 Z2 T t c o o' x k : Nat} (hlow : Z % B ^ k = 0) (hT : T < B ^ k) (ht : t < B) (hM : M < B ^ 4) (e : Z + o * B ^ (k + 4) = X + T * M)
  (ht0 : (dg B Z k + t * dg B M 0) % B = 0) (h1 : Z1 + c * B ^ (k + 4) = Z + t * (M % B ^ 4) * B ^ k) (hx : x + B * o' = dg B Z1 (k + 4) + c + o)
  (h2 : Z2 + B ^ (k + 4) * dg B Z1 (k + 4) = Z1 + B ^ (k + 4) * x) :
  Z2 % B ^ (k + 1) = 0 ∧ T + B ^ k * t < B ^ (k + 1) ∧ Z2 + o' * B ^ (k + 1 + 4) = X + (T + B ^ k * t) * M:=by
 have hz:=low_dvd hlow
 rw [Nat.mod_eq_of_lt hM] at h1
 have hp5 : B ^ (k + 1 + 4) = B ^ (k + 4) * B:=by rw [← Nat.pow_succ,show k + 1 + 4 = k + 4 + 1 by omega]
 have hq : B ^ (k + 4) = B ^ (k + 1) * B ^ 3:=by rw [← Nat.pow_add,show k + 1 + 3 = k + 4 by omega]
 have f : Z2 + o' * B ^ (k + 1 + 4) = Z + t * M * B ^ k + o * B ^ (k + 4):=by
  have h3:=congrArg (fun z => B ^ (k + 4) * z) hx
  simp only [Nat.mul_add] at h3
  rw [hp5,Nat.mul_comm o',Nat.mul_assoc (B ^ (k + 4)),Nat.mul_comm o]
  rw [Nat.mul_comm c] at h1
  generalize B ^ (k + 4) * dg B Z1 (k + 4) = p1 at *
  generalize B ^ (k + 4) * x = p2 at *
  generalize B ^ (k + 4) * c = p3 at *
  generalize B ^ (k + 4) * o = p4 at *
  generalize B ^ (k + 4) * (B * o') = p5 at *
  omega
 refine ⟨?_,?_,?_⟩
 ·
  have g : (Z2 + o' * B ^ (k + 1 + 4)) % B ^ (k + 1) = Z2 % B ^ (k + 1):=by
   rw [hp5,hq,Nat.mul_comm o',Nat.mul_assoc,Nat.mul_assoc,Nat.add_mul_mod_self_left]
  rw [← g,f,hq,Nat.mul_comm o,Nat.mul_assoc (B ^ (k + 1)),Nat.add_mul_mod_self_left]
  have hd : (Z / B ^ k + t * M) % B = 0:=by
   have : dg B Z k = Z / B ^ k % B:=rfl
   rw [this] at ht0
   have h0 : dg B M 0 = M % B:=by unfold dg; rw [Nat.pow_zero,Nat.div_one]
   rw [h0,Nat.mod_add_mod,Nat.add_mod,Nat.mul_mod,Nat.mod_mod,← Nat.mul_mod,← Nat.add_mod] at ht0
   exact ht0
  rw [hz,Nat.mul_comm (t * M),← Nat.mul_add,Nat.pow_succ,Nat.mul_mod_mul_left,hd,Nat.mul_zero]
 ·
  rw [Nat.pow_succ]
  have : B ^ k * (t + 1) ≤ B ^ k * B:=Nat.mul_le_mul_left _ ht
  rw [Nat.mul_add] at this; omega
 ·
  rw [f,Nat.add_mul,Nat.mul_right_comm t M,Nat.mul_comm (B ^ k) t]
  generalize t * B ^ k * M = p3 at *
  generalize o * B ^ (k + 4) = p1 at *
  generalize T * M = p2 at *
  omega
theorem times_zero {d n m : Int} (h : (18446744073709551616 : Int) ∣ m * n - 1) :
  (d + (-d % 18446744073709551616 * n) % 18446744073709551616 * m) % 18446744073709551616 = 0:=by
 have e1:=Int.emod_add_mul_ediv (-d) 18446744073709551616
 have e2:=Int.emod_add_mul_ediv (-d % 18446744073709551616 * n) 18446744073709551616
 generalize -d % 18446744073709551616 * n / 18446744073709551616 = q2 at *
 generalize -d % 18446744073709551616 * n % 18446744073709551616 = t at *
 generalize -d / 18446744073709551616 = q1 at *
 generalize -d % 18446744073709551616 = s at *
 obtain ⟨c,hc⟩:=h
 apply Int.emod_eq_zero_of_dvd
 refine ⟨-d * c - q1 * n * m - q2 * m,?_⟩
 have et : t = s * n - 18446744073709551616 * q2:=by omega
 have es : s = -d - 18446744073709551616 * q1:=by omega
 have hmn : m * n = 18446744073709551616 * c + 1:=by omega
 rw [et,es]
 have : (-d - 18446744073709551616 * q1) * n * m = (-d - 18446744073709551616 * q1) * (m * n):=by rw [Int.mul_assoc,Int.mul_comm n]
 simp only [Int.sub_mul,Int.mul_sub,Int.neg_mul,Int.mul_assoc] at *
 rw [Int.mul_comm n m,hmn]
 simp only [Int.mul_add,Int.mul_one]
 have e3 : d * (18446744073709551616 * c) = 18446744073709551616 * (d * c):=by rw [Int.mul_left_comm]
 rw [e3]
 have e4 : q1 * (18446744073709551616 * c) = 18446744073709551616 * (q1 * c):=by rw [Int.mul_left_comm]
 rw [e4]
 omega
/-! ### Newton's steps -/
theorem newton {D E m x : Int} (h : D ∣ m * x - 1) (hE : E ∣ D * D) (hW : E ∣ 18446744073709551616) :
  E ∣ m * (x * ((2 - m * x % 18446744073709551616) % 18446744073709551616) % 18446744073709551616) - 1:=by
 obtain ⟨a,ha⟩:=h
 have e1:=Int.emod_add_mul_ediv (m * x) 18446744073709551616
 have e2:=Int.emod_add_mul_ediv (2 - m * x % 18446744073709551616) 18446744073709551616
 have e3:=Int.emod_add_mul_ediv (x * ((2 - m * x % 18446744073709551616) % 18446744073709551616)) 18446744073709551616
 generalize x * ((2 - m * x % 18446744073709551616) % 18446744073709551616) / 18446744073709551616 = q3 at *
 generalize x * ((2 - m * x % 18446744073709551616) % 18446744073709551616) % 18446744073709551616 = t3 at *
 generalize (2 - m * x % 18446744073709551616) / 18446744073709551616 = q2 at *
 generalize (2 - m * x % 18446744073709551616) % 18446744073709551616 = t2 at *
 generalize m * x / 18446744073709551616 = q1 at *
 generalize m * x % 18446744073709551616 = t1 at *
 -- m x = 1 + D a; t2 = 2 - m x + W (q1 - q2); t3 = x t2 - W q3
 have h3 : t3 = x * t2 - 18446744073709551616 * q3:=by omega
 have h2 : t2 = 2 - m * x + 18446744073709551616 * (q1 - q2):=by omega
 have hk : m * t3 - 1 = -(D * D) * (a * a) + 18446744073709551616 * (m * x * (q1 - q2) - m * q3):=by
  rw [h3,h2]
  have hx : m * x = 1 + D * a:=by omega
  rw [Int.mul_sub,← Int.mul_assoc,Int.mul_add,hx,Int.mul_left_comm m,Int.mul_left_comm (1 + D * a) 18446744073709551616]
  have : (1 + D * a) * (2 - (1 + D * a)) = 1 - D * D * (a * a):=by
   rw [show (2 : Int) - (1 + D * a) = 1 - D * a by omega,Int.mul_sub,Int.mul_one,Int.add_mul,Int.one_mul]
   have : D * a * (D * a) = D * D * (a * a):=by rw [Int.mul_assoc,Int.mul_left_comm a,Int.mul_assoc]
   omega
  rw [this,Int.neg_mul,Int.mul_sub]
  omega
 rw [hk]
 exact Int.dvd_add (Int.dvd_trans (Int.dvd_neg.2 hE) (Int.dvd_mul_right _ _)) (Int.dvd_trans hW (Int.dvd_mul_right _ _))
def dv (k : Nat) : Int:=match k with | 0 => 8 | 1 => 64 | 2 => 4096 | 3 => 16777216 | 4 => 281474976710656 | _ => 18446744073709551616
theorem dv_start {m : Int} (h : m % 2 = 1) : dv 0 ∣ m * m - 1:=by
 show (8 : Int) ∣ m * m - 1
 obtain ⟨a,b,ha,hb⟩ : ∃ a b : Int,m = 8 * a + b ∧ (b = 1 ∨ b = 3 ∨ b = 5 ∨ b = 7):=⟨m / 8,m % 8,by omega,by omega⟩
 have : m * m = 8 * (a * (8 * a) + 2 * (a * b)) + b * b:=by
  rw [ha,Int.add_mul,Int.mul_add,Int.mul_add,Int.mul_assoc,Int.mul_assoc,Int.mul_comm b,Int.mul_assoc 8 a b]
  omega
 rw [this]
 rcases hb with rfl | rfl | rfl | rfl <;> omega
theorem dv_step {m x : Int} {k : Nat} (hk : k < 5) (h : dv k ∣ m * x - 1) :
  dv (k + 1) ∣ m * (x * ((2 - m * x % 18446744073709551616) % 18446744073709551616) % 18446744073709551616) - 1:=by
 refine newton h ?_ ?_
 ·
  match k,hk with
  | 0,_ => decide
  | 1,_ => decide
  | 2,_ => decide
  | 3,_ => decide
  | 4,_ => decide
 ·
  match k,hk with
  | 0,_ => decide
  | 1,_ => decide
  | 2,_ => decide
  | 3,_ => decide
  | 4,_ => decide
/-! ### modulo an odd number,2^256 can be taken away -/
theorem top_twoF : top = 2 ^ 256:=by decide
theorem cop_top {M : Nat} (h : M % 2 = 1) : Nat.Coprime top M:=by
 rw [top_twoF]
 apply Nat.Coprime.pow_left
 unfold Nat.Coprime
 rw [Nat.gcd_rec,h]; rfl
theorem cut_top {M A B : Nat} (hM : M % 2 = 1) (h : A * top % M = B * top % M) : A % M = B % M:=by
 have hc : Nat.Coprime M top:=(cop_top hM).symm
 have key : ∀ {a b : Nat},a ≤ b → a * top % M = b * top % M → a % M = b % M:=by
  intro a b hab h
  have h1 : M ∣ (b - a) * top:=by
   rw [Nat.sub_mul]
   exact Nat.dvd_of_mod_eq_zero (Nat.sub_mod_eq_zero_of_mod_eq h.symm)
  have h2 : M ∣ b - a:=Nat.Coprime.dvd_of_dvd_mul_right hc h1
  obtain ⟨c,hc2⟩:=h2
  rw [show b = a + M * c by omega,Nat.add_mul_mod_self_left]
 rcases Nat.le_total A B with hab | hab
 ·
  exact key hab h
 ·
  exact (key hab h.symm).symm
theorem shr_sum {X M Z T o : Nat} (hX : X < top8) (hT : T < top) (hM0 : 0 < M) (hlow : Z % top = 0) (e : Z + o * top8 = X + T * M) :
  (Z / top + o * top) * top = X + T * M ∧ Z / top + o * top < top + M ∧ (X < M * top → Z / top + o * top < 2 * M):=by
 have hp:=zcp
 have hz : top * (Z / top) + Z % top = Z:=Nat.div_add_mod _ _
 rw [zii] at *
 have e2 : (Z / top + o * top) * top = X + T * M:=by
  rw [Nat.add_mul,Nat.mul_assoc,Nat.mul_comm (Z / top)]; omega
 have hTM : T * M < top * M:=Nat.mul_lt_mul_of_pos_right hT hM0
 refine ⟨e2,?_,fun h => ?_⟩
 ·
  apply Nat.lt_of_mul_lt_mul_right (a:=top)
  rw [e2,Nat.add_mul,Nat.mul_comm M]; omega
 ·
  apply Nat.lt_of_mul_lt_mul_right (a:=top)
  rw [e2,Nat.mul_assoc 2,Nat.mul_comm M] at *
  omega
end Go.Proofs.YtmfjigcdhijkjaaGreatDoor
namespace Go.Proofs.YtmfjigcdhijkjaaGreatDoor
open Go.RowKit
open Go.Act renaming put → aP
open List renaming setIfInBounds_toArray → lA, set_cons_zero → lZ, set_cons_succ → lS
def fdf (M : Nat) (N : Int) (Q : Nat) : Nat → Value:=fun j => if j < 4 then .int .u64 (wd M j) else if j = 4 then .int .u64 N else .int .u64 (wd Q (j - 5))
def Fb (w : World) (b M : Nat) (N : Int) (Q : Nat) : Prop:=w.rowIs b 107 9 (fdf M N Q)
structure Fok (M : Nat) (N : Int) (Q : Nat) : Prop where
 m2 : 2 < M
 odd : M % 2 = 1
 mt : M < top
 n0 : 0 ≤ N
 n1 : N ≤ 18446744073709551615
 inv : (18446744073709551616 : Int) ∣ wd M 0 * N - 1
 q : Q = top8 % M
theorem Fok.qm {M : Nat} {N : Int} {Q : Nat} (h : Fok M N Q) : Q < M:=by rw [h.q]; exact Nat.mod_lt _ (by have:=h.m2; omega)
section
variable {w w' : World} {b M Q B : Nat} {N : Int}
theorem Fb.lt (h : Fb w b M N Q) : b < w.heap.size:=World.rowIs.lt h
theorem Fb.below (h : Fb w b M N Q) (hb : Below B w w') (hlt : b < B) : Fb w' b M N Q:=zad h hb hlt
theorem Fb.call (h : Fb w b M N Q) (hb : Below w.heap.size w w') : Fb w' b M N Q:=zad h hb h.lt
theorem Fb.drew (h : Fb w b M N Q) : Fb w.drew b M N Q:=h
theorem Fb.alloc (h : Fb w b M N Q) (o : Obj) : Fb (w.alloc o) b M N Q:=World.rowIs.alloc h o
theorem Fb.mod (h : Fb w b M N Q) : w.cell? ⟨b,0,none⟩ = some (.int .u64 (wd M 0)) ∧ w.cell? ⟨b,1,none⟩ = some (.int .u64 (wd M 1)) ∧ w.cell? ⟨b,2,none⟩ = some (.int .u64 (wd M 2)) ∧ w.cell? ⟨b,3,none⟩ = some (.int .u64 (wd M 3)) :=
 ⟨World.rowIs.cell h (by omega),World.rowIs.cell h (by omega),World.rowIs.cell h (by omega),World.rowIs.cell h (by omega)⟩
theorem Fb.inv (h : Fb w b M N Q) : w.cell? ⟨b,4,none⟩ = some (.int .u64 N):=World.rowIs.cell h (by omega)
theorem Fb.sq (h : Fb w b M N Q) : w.cell? ⟨b,5,none⟩ = some (.int .u64 (wd Q 0)) ∧ w.cell? ⟨b,6,none⟩ = some (.int .u64 (wd Q 1)) ∧ w.cell? ⟨b,7,none⟩ = some (.int .u64 (wd Q 2)) ∧ w.cell? ⟨b,8,none⟩ = some (.int .u64 (wd Q 3)) :=
 ⟨World.rowIs.cell h (by omega),World.rowIs.cell h (by omega),World.rowIs.cell h (by omega),World.rowIs.cell h (by omega)⟩
end
theorem wide_num (X : Nat) (h : X < top) : wd X 4 = 0 ∧ wd X 5 = 0 ∧ wd X 6 = 0 ∧ wd X 7 = 0:=by
 have e : ∀ i,4 ≤ i → wd X i = 0:=by
  intro i hi
  unfold wd dg
  rw [Nat.div_eq_of_lt (Nat.lt_of_lt_of_le h (Nat.pow_le_pow_right zbd hi))]; rfl
 exact ⟨e 4 (by omega),e 5 (by omega),e 6 (by omega),e 7 (by omega)⟩
theorem wide_calls (X : Nat) (hX : X < top) (w : World) :
  Calls Tryz.prog 126 #[.agg #[.int .u64 (wd X 0),.int .u64 (wd X 1),.int .u64 (wd X 2),.int .u64 (wd X 3)]] w fun e w' => e = .returned (.agg #[.int .u64 (wd X 0),.int .u64 (wd X 1),.int .u64 (wd X 2),.int .u64 (wd X 3),.int .u64 (wd X 4),.int .u64 (wd X 5),.int .u64 (wd X 6),.int .u64 (wd X 7)]) ∧ Below w.heap.size w w':=by
 obtain ⟨e4,e5,e6,e7⟩:=wide_num X hX
 rw [e4,e5,e6,e7]
 have hA0 : ((w.alloc (.cells #[.int .u64 (wd X 0),.int .u64 (wd X 1),.int .u64 (wd X 2),.int .u64 (wd X 3)] 24)).alloc (.cells #[.int .u64 0,.int .u64 0,.int .u64 0,.int .u64 0,.int .u64 0,.int .u64 0,.int .u64 0,.int .u64 0] 103)).rowIs w.heap.size 24 4 (fun j => .int .u64 (wd X j)):=(zai (n:=4) (by simp) rfl (arr4 fun j => .int .u64 (wd X j))).alloc _
 have hR0 : ((w.alloc (.cells #[.int .u64 (wd X 0),.int .u64 (wd X 1),.int .u64 (wd X 2),.int .u64 (wd X 3)] 24)).alloc (.cells #[.int .u64 0,.int .u64 0,.int .u64 0,.int .u64 0,.int .u64 0,.int .u64 0,.int .u64 0,.int .u64 0] 103)).rowIs (w.heap.size + 1) 103 8 (fun _ => .int .u64 0):=zai (n:=8) (by simp) rfl (arr8 fun _ => .int .u64 0)
 obtain ⟨c0,c1,c2,c3⟩:=zag hA0
 obtain ⟨f0,f1,f2,f3,f4,f5,f6,f7⟩:=row_f8 hR0
 obtain ⟨d0,d1,d2,d3,d4,d5,d6,d7⟩:=row_c8 hR0
 clear e4 e5 e6 e7
 go_enter Tryz.func126,Tryz.ntmps126
 go_wp2
 exact bodyPost_ret (results_cell_row rfl _ _ (w.heap.size + 1) 103 #[.int .u64 (wd X 0),.int .u64 (wd X 1),.int .u64 (wd X 2),.int .u64 (wd X 3),.int .u64 0,.int .u64 0,.int .u64 0,.int .u64 0] (0,0) _ rfl (blk8 (zai (n:=8) (f:=fun j => if j < 4 then Value.int .u64 (wd X j) else .int .u64 0) (by simp) rfl (arr8 fun j => if j < 4 then Value.int .u64 (wd X j) else .int .u64 0))) Tryz.underlying103 rfl (by kernel_rfl)) rfl ⟨rfl,((Below.refl _ _).alloc (by simp) _).alloc (by simp) _⟩
theorem inverse_calls (m : Int) (h0 : 0 ≤ m) (h1 : m ≤ 18446744073709551615) (hodd : m % 2 = 1) (w : World) :
  Calls Tryz.prog 107 #[.int .u64 m] w fun e w' => ∃ n : Int,0 ≤ n ∧ n ≤ 18446744073709551615 ∧ (18446744073709551616 : Int) ∣ m * n - 1 ∧ e = .returned (.int .u64 n) ∧ w' = w:=by
 have hS:=veil (dv_start hodd)
 clear hodd
 go_enter Tryz.func107,Tryz.ntmps107
 go_wp2
 go_loopw [3,5] (fun x i wr => ∃ (k : Nat) (n : Int),k ≤ 5 ∧ i = .int .i64 (k : Int) ∧ x = .int .u64 n ∧ 0 ≤ n ∧ n ≤ 18446744073709551615 ∧ Hid (dv k ∣ m * n - 1) ∧ wr = w)
  (fun _ i _ => 5 - (intOf i).toNat)
 case atStart => exact ⟨0,m,by omega,rfl,rfl,h0,h1,hS,rfl⟩
 case round =>
  obtain ⟨k,n,hk,rfl,rfl,n0,n1,hD,rfl⟩:=hrel
  by_cases hlt : k < 5
  ·
   have hn:=veil (dv_step hlt hD.out)
   obtain ⟨y,hy⟩ : ∃ y,y = n * ((2 - m * n % 18446744073709551616) % 18446744073709551616) % 18446744073709551616:=⟨_,rfl⟩
   rw [← hy] at hn
   have y0 : 0 ≤ y:=by omega
   have y1 : y ≤ 18446744073709551615:=by omega
   have hY:=veil hy
   clear hy
   go_wp2
   go_roundw
   case rel => exact ⟨k + 1,y,by omega,by go_num,by simp only [IntKind.wrap_u64]; rw [hY.out],y0,y1,hn,trivial⟩
   case measure => simp [intOf]; omega
  ·
   obtain rfl : k = 5:=by omega
   go_wp2
   go_ret
   exact ⟨n,n0,n1,hD.out,rfl,rfl⟩
theorem ret_u2 {a b c d : Int} (h : a = b) (h2 : c = d) : Ending.returned (.tuple #[.int .u64 a,.int .u64 c]) = .returned (.tuple #[.int .u64 b,.int .u64 d]):=by rw [h,h2]
theorem mul64 (x y : Int) (hx : 0 ≤ x) (hx2 : x ≤ 18446744073709551615) (hy : 0 ≤ y) (hy2 : y ≤ 18446744073709551615) (w : World) :
  Calls Tryz.prog 125 #[.int .u64 x,.int .u64 y] w fun e w' => e = .returned (.tuple #[.int .u64 (x * y / 18446744073709551616),.int .u64 (x * y % 18446744073709551616)]) ∧ w' = w:=by
 have key:=mul64_arith x y hx (by omega) hy (by omega)
 have m1:=and_low32 x hx (by omega)
 have m2:=and_low32 y hy (by omega)
 have K:=veil key
 have M1:=veil m1
 have M2:=veil m2
 clear key m1 m2
 go_enter Tryz.func125,Tryz.ntmps125
 go_wp2
 go_ret2
 refine ⟨ret_u2 ?_ ?_,rfl⟩
 ·
  simp only [M1.out,M2.out,IntKind.wrap_u64]
  rw [and_low32 _ (by omega) (by omega)]
  exact K.out
 ·
  exact IntKind.wrap_u64 _
theorem ma_bound {x y : Int} (hx : 0 ≤ x) (hx2 : x ≤ 18446744073709551615) (hy : 0 ≤ y) (hy2 : y ≤ 18446744073709551615) : 0 ≤ x * y ∧ x * y ≤ 340282366920938463426481119284349108225:=by
 refine ⟨Int.mul_nonneg hx hy,?_⟩
 have:=Int.mul_le_mul hx2 hy2 hy (by omega : (0 : Int) ≤ 18446744073709551615)
 omega
theorem mulAdd_calls (x y u v : Int) (hx : 0 ≤ x) (hx2 : x ≤ 18446744073709551615) (hy : 0 ≤ y) (hy2 : y ≤ 18446744073709551615) (hu : 0 ≤ u) (hu2 : u ≤ 18446744073709551615) (hv : 0 ≤ v) (hv2 : v ≤ 18446744073709551615) (w : World) :
  Calls Tryz.prog 112 #[.int .u64 x,.int .u64 y,.int .u64 u,.int .u64 v] w fun e w' => e = .returned (.tuple #[.int .u64 ((x * y + u + v) % 18446744073709551616),.int .u64 ((x * y + u + v) / 18446744073709551616)]) ∧ w' = w:=by
 obtain ⟨p0,p1⟩:=ma_bound hx hx2 hy hy2
 obtain ⟨P,hP⟩ : ∃ P,P = x * y:=⟨_,rfl⟩
 rw [← hP] at p0 p1 ⊢
 obtain ⟨L,hL⟩ : ∃ L,L = P % 18446744073709551616:=⟨_,rfl⟩
 obtain ⟨Hh,hH⟩ : ∃ Hh,Hh = P / 18446744073709551616:=⟨_,rfl⟩
 obtain ⟨L1,hL1⟩ : ∃ L1,L1 = (L + u + 0) % 18446744073709551616:=⟨_,rfl⟩
 obtain ⟨c1,hc1⟩ : ∃ c1,c1 = (L + u + 0) / 18446744073709551616:=⟨_,rfl⟩
 obtain ⟨L2,hL2⟩ : ∃ L2,L2 = (L1 + v + 0) % 18446744073709551616:=⟨_,rfl⟩
 obtain ⟨c2,hc2⟩ : ∃ c2,c2 = (L1 + v + 0) / 18446744073709551616:=⟨_,rfl⟩
 have h29a:=fun W => add64 L u 0 (by omega) hu (by omega) (by omega) W
 have h29b:=fun W => add64 L1 v 0 (by omega) hv (by omega) (by omega) W
 rw [← hL1,← hc1] at h29a
 rw [← hL2,← hc2] at h29b
 have b1 : 0 ≤ Hh:=by omega
 have b2 : 0 ≤ c1:=by omega
 have b3 : 0 ≤ c2:=by omega
 have b4 : Hh + c1 ≤ 18446744073709551615:=by omega
 have b5 : Hh + c1 + c2 ≤ 18446744073709551615:=by omega
 have e1 : (P + u + v) % 18446744073709551616 = L2:=by omega
 have e2 : (P + u + v) / 18446744073709551616 = Hh + c1 + c2:=by omega
 have hM:=fun W => mul64 x y hx hx2 hy hy2 W
 rw [← hP,← hL,← hH] at hM
 have HM:=veil hM
 have E:=veil (And.intro e1 e2)
 clear hM e1 e2 hP hL hH hL1 hc1 hL2 hc2 p0 p1 hx hx2 hy hy2 hu hu2 hv hv2
 go_enter Tryz.func112,Tryz.ntmps112
 go_wp2_with (go_at_call 125; refine (HM.out _).mono ?_; rintro e w' ⟨rfl,rfl⟩)
 go_ret2
 rw [E.out.1,E.out.2]
 exact ⟨rfl,rfl⟩
end Go.Proofs.YtmfjigcdhijkjaaGreatDoor
namespace Go.Proofs.YtmfjigcdhijkjaaGreatDoor
def PP (B X Y i : Nat) : Nat:=X % B ^ i * Y
def TT (B X Y i j : Nat) : Nat:=PP B X Y i % B ^ (i + j) + dg B X i * (B ^ i * (Y % B ^ j))
def CC (B X Y i j : Nat) : Nat:=TT B X Y i j / B ^ (i + j)
def UU (B X Y i j m : Nat) : Nat:=if m < i + j then dg B (TT B X Y i j) m else dg B (PP B X Y i) m
theorem UU_start {B : Nat} (X Y i m : Nat) : UU B X Y i 0 m = dg B (PP B X Y i) m:=by
 unfold UU
 split
 ·
  rename_i h
  unfold TT
  simp only [Nat.pow_zero,Nat.mod_one,Nat.mul_zero,Nat.add_zero] at *
  exact zdj _ i m h
 ·
  rfl
theorem CC_start {B : Nat} (hB : 0 < B) (X Y i : Nat) : CC B X Y i 0 = 0:=by
 unfold CC TT
 simp only [Nat.pow_zero,Nat.mod_one,Nat.mul_zero,Nat.add_zero]
 exact Nat.div_eq_of_lt (Nat.mod_lt _ (Nat.pow_pos hB))
theorem TT_lt {B : Nat} (hB : 0 < B) (X Y i j : Nat) : TT B X Y i j < B ^ (i + j) * B:=by
 have hQ : 0 < B ^ (i + j):=Nat.pow_pos hB
 have h1:=Nat.mod_lt (PP B X Y i) hQ
 have h2 : B ^ i * (Y % B ^ j) ≤ B ^ (i + j):=by
  rw [Nat.pow_add]
  exact Nat.mul_le_mul_left _ (Nat.le_of_lt (Nat.mod_lt _ (Nat.pow_pos hB)))
 have h3 : dg B X i * (B ^ i * (Y % B ^ j)) ≤ (B - 1) * B ^ (i + j):=Nat.mul_le_mul (by have:=dg_lt hB X i; omega) h2
 unfold TT
 have h4 : B ^ (i + j) * B = B ^ (i + j) + (B - 1) * B ^ (i + j):=by
  obtain ⟨b,rfl⟩ : ∃ b,B = b + 1:=⟨B - 1,by omega⟩
  rw [Nat.add_sub_cancel,Nat.mul_add,Nat.mul_one,Nat.mul_comm]
  omega
 omega
theorem CC_lt {B : Nat} (hB : 0 < B) (X Y i j : Nat) : CC B X Y i j < B:=by
 unfold CC
 rw [Nat.div_lt_iff_lt_mul (Nat.pow_pos hB),Nat.mul_comm]
 exact TT_lt hB X Y i j
theorem UU_lt {B : Nat} (hB : 0 < B) (X Y i j m : Nat) : UU B X Y i j m < B:=by
 unfold UU
 split <;> exact dg_lt hB _ _
theorem TT_step {B : Nat} (X Y i j : Nat) :
  TT B X Y i (j + 1) = TT B X Y i j % B ^ (i + j) + B ^ (i + j) * (dg B X i * dg B Y j + dg B (PP B X Y i) (i + j) + CC B X Y i j):=by
 have h1 : TT B X Y i (j + 1) = TT B X Y i j + B ^ (i + j) * (dg B (PP B X Y i) (i + j) + dg B X i * dg B Y j):=by
  unfold TT
  rw [show i + (j + 1) = (i + j) + 1 by omega,zcy B (PP B X Y i) (i + j),zcy B Y j,Nat.mul_add (B ^ i),← Nat.mul_assoc (B ^ i),← Nat.pow_add,Nat.mul_add (dg B X i),Nat.mul_add (B ^ (i + j)),
   show dg B X i * (B ^ (i + j) * dg B Y j) = B ^ (i + j) * (dg B X i * dg B Y j) by rw [Nat.mul_left_comm]]
  omega
 have h2 : B ^ (i + j) * CC B X Y i j + TT B X Y i j % B ^ (i + j) = TT B X Y i j:=Nat.div_add_mod _ _
 rw [h1,Nat.mul_add,Nat.mul_add,Nat.mul_add]
 omega
theorem UU_step {B : Nat} (hB : 0 < B) (X Y i j : Nat) : UU B X Y i (j + 1) (i + j) = (dg B X i * dg B Y j + UU B X Y i j (i + j) + CC B X Y i j) % B:=by
 have hu : UU B X Y i j (i + j) = dg B (PP B X Y i) (i + j):=by unfold UU; rw [if_neg (by omega)]
 rw [hu]
 unfold UU
 rw [if_pos (by omega),dg,TT_step,Nat.add_mul_div_left _ _ (Nat.pow_pos hB),Nat.div_eq_of_lt (Nat.mod_lt _ (Nat.pow_pos hB)),Nat.zero_add]
theorem CC_step {B : Nat} (hB : 0 < B) (X Y i j : Nat) : CC B X Y i (j + 1) = (dg B X i * dg B Y j + UU B X Y i j (i + j) + CC B X Y i j) / B:=by
 have hu : UU B X Y i j (i + j) = dg B (PP B X Y i) (i + j):=by unfold UU; rw [if_neg (by omega)]
 rw [hu]
 show TT B X Y i (j + 1) / B ^ (i + (j + 1)) = _
 rw [show i + (j + 1) = (i + j) + 1 by omega,Nat.pow_succ,← Nat.div_div_eq_div_mul,TT_step,Nat.add_mul_div_left _ _ (Nat.pow_pos hB),Nat.div_eq_of_lt (Nat.mod_lt _ (Nat.pow_pos hB)),Nat.zero_add]
theorem UU_other {B : Nat} (X Y i j m : Nat) (hm : m ≠ i + j) : UU B X Y i (j + 1) m = UU B X Y i j m:=by
 unfold UU
 by_cases h : m < i + j
 ·
  rw [if_pos (by omega),if_pos h,← zdj _ (i + j) m h,TT_step,Nat.add_mul_mod_self_left,Nat.mod_mod,zdj _ (i + j) m h]
 ·
  rw [if_neg (by omega),if_neg h]
theorem PP_lt {B : Nat} (hB : 0 < B) (X Y i n : Nat) (hY : Y < B ^ n) : PP B X Y i < B ^ (i + n):=by
 have h1 : X % B ^ i < B ^ i:=Nat.mod_lt _ (Nat.pow_pos hB)
 unfold PP
 rw [Nat.pow_add]
 exact Nat.mul_lt_mul_of_lt_of_le h1 (Nat.le_of_lt hY) (by omega)
theorem PP_step {B : Nat} (hB : 0 < B) (X Y i n : Nat) (hY : Y < B ^ n) : PP B X Y (i + 1) = TT B X Y i n:=by
 unfold TT
 rw [Nat.mod_eq_of_lt (PP_lt hB X Y i n hY),Nat.mod_eq_of_lt hY]
 unfold PP
 rw [zcy,Nat.add_mul,Nat.mul_comm (B ^ i) (dg B X i),Nat.mul_assoc]
theorem PP_row {B : Nat} (hB : 0 < B) (X Y i n m : Nat) (hY : Y < B ^ n) : dg B (PP B X Y (i + 1)) m = if m = i + n then CC B X Y i n else UU B X Y i n m:=by
 rw [PP_step hB X Y i n hY]
 by_cases h : m = i + n
 ·
  subst h
  rw [if_pos rfl]
  show CC B X Y i n % B = _
  exact Nat.mod_eq_of_lt (CC_lt hB X Y i n)
 ·
  rw [if_neg h]
  unfold UU
  by_cases h2 : m < i + n
  ·
   rw [if_pos h2]
  ·
   rw [if_neg h2]
   have hle : B ^ (i + n) * B ≤ B ^ m:=by rw [← Nat.pow_succ]; exact Nat.pow_le_pow_right hB (by omega)
   have h3:=TT_lt hB X Y i n
   have h4:=PP_lt hB X Y i n hY
   have h5 : B ^ (i + n) ≤ B ^ (i + n) * B:=Nat.le_mul_of_pos_right _ hB
   unfold dg
   rw [Nat.div_eq_of_lt (by omega),Nat.div_eq_of_lt (by omega)]
theorem PP_zero (B X Y : Nat) : PP B X Y 0 = 0:=by simp [PP,Nat.mod_one]
theorem PP_end {B : Nat} (X Y n : Nat) (hX : X < B ^ n) : PP B X Y n = X * Y:=by unfold PP; rw [Nat.mod_eq_of_lt hX]
theorem dg_zero (B i : Nat) : dg B 0 i = 0:=by simp [dg]
end Go.Proofs.YtmfjigcdhijkjaaGreatDoor
namespace Go.Proofs.YtmfjigcdhijkjaaGreatDoor
open Go.RowKit
open Go.Act renaming put → aP
open List renaming setIfInBounds_toArray → lA, set_cons_zero → lZ, set_cons_succ → lS
theorem half_div (X P : Nat) : X / 2 / P = X / P / 2:=by rw [Nat.div_div_eq_div_mul,Nat.div_div_eq_div_mul,Nat.mul_comm]
theorem dg_next (B X i : Nat) : dg B X (i + 1) = X / B ^ i / B % B:=by rw [dg,Nat.pow_succ,Nat.div_div_eq_div_mul]
theorem half_word (X m : Nat) : bits .or .u64 (wd X m / 2) (IntKind.u64.wrap (wd X (m + 1) * 9223372036854775808)) = wd (X / 2) m:=by
 unfold wd
 rw [dg_next,IntKind.wrap_u64]
 show _ = ((X / 2 / w64 ^ m % w64 : Nat) : Int)
 rw [half_div]
 unfold dg
 generalize X / w64 ^ m = q
 unfold w64
 rw [show ((q % 18446744073709551616 : Nat) : Int) / 2 = ((q % 18446744073709551616 / 2 : Nat) : Int) by omega,
  show ((q / 18446744073709551616 % 18446744073709551616 : Nat) : Int) * 9223372036854775808 % 18446744073709551616 = ((q / 18446744073709551616 % 2 * 9223372036854775808 : Nat) : Int) by omega]
 rw [u64_or_nat _ _ (by omega) (by omega),Nat.or_comm,nat_join 63 _ _ (by omega) (by omega)]
 omega
theorem wd_top {X : Nat} (hX : X < top) : wd X 4 = 0:=by
 unfold wd dg
 unfold top at hX
 rw [Nat.div_eq_of_lt hX]; rfl
theorem row_down {X m : Nat} : ∀ i,i < 4 → (if i = m then Value.int .u64 (wd X m) else Value.int .u64 (if m + 1 ≤ i then wd X i else 0)) = Value.int .u64 (if m ≤ i then wd X i else 0):=by
 intro i _
 by_cases h : i = m
 ·
  subst h; simp
 ·
  rw [if_neg h]; by_cases h2 : m ≤ i
  ·
   rw [if_pos h2,if_pos (by omega)]
  ·
   rw [if_neg h2,if_neg (by omega)]
theorem half_calls (X : Nat) (hX : X < top) (w : World) :
  Calls Tryz.prog 75 #[.agg #[.int .u64 (wd X 0),.int .u64 (wd X 1),.int .u64 (wd X 2),.int .u64 (wd X 3)]] w fun e w' => e = .returned (.agg #[.int .u64 (wd (X / 2) 0),.int .u64 (wd (X / 2) 1),.int .u64 (wd (X / 2) 2),.int .u64 (wd (X / 2) 3)]) ∧ Below w.heap.size w w':=by
 go_enter Tryz.func75,Tryz.ntmps75
 go_wp2
 go_loopw [4,5] (fun c i wr => ∃ k : Nat,k ≤ 4 ∧ i = .int .i64 ((k : Int) - 1) ∧ c = .int .u64 (wd X k) ∧ wr.rowIs w.heap.size 24 4 (fun j => .int .u64 (wd X j))
   ∧ wr.rowIs (w.heap.size + 1) 24 4 (fun _ => .int .u64 0) ∧ wr.rowIs (w.heap.size + 1 + 1) 24 4 (fun j => .int .u64 (if k ≤ j then wd (X / 2) j else 0)) ∧ Below w.heap.size w wr)
  (fun _ i _ => (intOf i + 1).toNat)
 case atStart => exact ⟨4,by omega,rfl,by rw [wd_top hX],((zai (n:=4) (by simp) rfl (arr4 fun j => .int .u64 (wd X j))).alloc _).alloc _,(zai (n:=4) (by simp) rfl (arr4 fun _ => .int .u64 0)).alloc _,(zai (n:=4) (f:=fun _ => .int .u64 0) (by simp) rfl (arr4 fun _ => .int .u64 0)).congr (fun i hi => by rw [if_neg (by omega)]),(((Below.refl _ _).alloc (by simp) _).alloc (by simp) _).alloc (by simp; omega) _⟩
 case round =>
  obtain ⟨k,hk,hi,rfl,hRX,hRZ,hS,hbel⟩:=hrel
  cases k with
  | zero =>
   subst hi
   obtain ⟨c0,c1,c2,c3⟩:=zag hS
   obtain ⟨d0,d1,d2,d3⟩:=zag hRZ
   obtain ⟨f0,f1,f2,f3⟩:=zaq hRZ
   simp only [Nat.zero_le,if_true] at c0 c1 c2 c3
   clear hS hRX
   go_wp2
   refine bodyPost_ret (results_cell_row rfl _ _ (w.heap.size + 1) 24 #[.int .u64 (wd (X / 2) 0),.int .u64 (wd (X / 2) 1),.int .u64 (wd (X / 2) 2),.int .u64 (wd (X / 2) 3)] (0,0) _ rfl (blk4 (put4 hRZ fun j => .int .u64 (wd (X / 2) j))) Tryz.underlying24 rfl (by kernel_rfl)) rfl ⟨rfl,zas hbel (by omega) _ _ _ _⟩
  | succ m =>
   obtain rfl : _ = Value.int .i64 (m : Int):=hi.trans (by congr 1; omega)
   have hm : m < 4:=by omega
   clear hi
   have c1:=hRX.cell hm
   have c2:=hS.cell hm
   have f2:=hS.frozen m
   have l1:=wd_lo X m
   have u1:=wd_le X m
   have l2:=wd_lo X (m + 1)
   have u2:=wd_le X (m + 1)
   go_wp2
   go_roundw
   case rel =>
    rw [half_word]
    exact ⟨m,by omega,rfl,rfl,zba hRX (by omega) _,zba hRZ (by omega) _,(hS.set m _).congr row_down,zav hbel (by omega) _⟩
   case measure => simp [intOf]
theorem khalf (X Z : Nat) (h : X / 2 = Z) (hX : X < top) (w : World) :
  Calls Tryz.prog 75 #[.agg #[.int .u64 (wd X 0),.int .u64 (wd X 1),.int .u64 (wd X 2),.int .u64 (wd X 3)]] w fun e w' => e = .returned (.agg #[.int .u64 (wd Z 0),.int .u64 (wd Z 1),.int .u64 (wd Z 2),.int .u64 (wd Z 3)]) ∧ Below w.heap.size w w':=by
 subst h; exact half_calls X hX w
theorem klen (X : Nat) (m : Int) (h : (bitLen X : Int) = m) (hX : X < top) (w : World) :
  Calls Tryz.prog 51 #[.agg #[.int .u64 (wd X 0),.int .u64 (wd X 1),.int .u64 (wd X 2),.int .u64 (wd X 3)]] w fun e w' => e = .returned (.int .i64 m) ∧ Below w.heap.size w w':=by
 subst h; exact len_calls X hX w
theorem zfw {P : Program} {w : World} {ops : Array Oper} {rest : List Oper} {o : Oper} {a : Act} {Q : Exit → Act → World → Prop} (hgd : o.guard = none) (d s : Operand) (dT sT : TypeId)
  (ho : o.op = .call { callee:=.builtin .copy,args:=#[d,s],argTypes:=#[dT,sT] }) (elem : TypeId) (hu : P.underlying dT = some (.slice elem)) (hsz : (P.info? elem).map (·.size) = some 1)
  (g dLen dCap : Nat) (A : Option Addr) (m c : Nat) (hd : a.eval d = .slice (some ⟨g,0,none⟩) dLen dCap) (hs : a.eval s = .slice A m c)
  (t n : Nat) (f : Nat → Value) (hrow : w.rowIs g t n f) (hm : m ≤ dLen) (hfit : m ≤ n) (v : Nat → Value) (hsrc : From w A m v)
  (h1 : ∀ j,j < m → (v j).oneCell' = true)
  (h : ∀ w',But g w w' → w'.rowIs g t n (fun j => if j < m then v j else f j) → wpList P ops Q rest (a.put o.dst (goInt (m : Nat))) w') : wpList P ops Q (o :: rest) a w:=by
 rcases hsrc with h0 | ⟨ad,rfl,hc⟩
 ·
  subst h0
  exact wpList_copy_nothing hgd d s dT sT ho elem hu hsz _ A dLen dCap 0 c hd hs (by simp) (h w (But.refl _ _) (hrow.congr fun j _ => by rw [if_neg (by omega)]))
 ·
  refine zgr hgd d s dT sT ho elem hu hsz g 0 dLen dCap ad m c hd hs t n f hrow m (Nat.min_eq_left hm).symm v hc (by omega) h1 fun w' hb hr => h w' hb (hr.congr fun j _ => ?_)
  by_cases e : j < m
  ·
   rw [if_pos ⟨by omega,by omega⟩,if_pos e]; rfl
  ·
   rw [if_neg (by omega),if_neg e]
theorem info64 : (Tryz.prog.info? 116).map (·.size) = some 64:=by kernel_rfl
theorem zB64 : (#[.int .u8 0,.int .u8 0,.int .u8 0,.int .u8 0,.int .u8 0,.int .u8 0,.int .u8 0,.int .u8 0,.int .u8 0,.int .u8 0,.int .u8 0,.int .u8 0,.int .u8 0,.int .u8 0,.int .u8 0,.int .u8 0,.int .u8 0,.int .u8 0,.int .u8 0,.int .u8 0,.int .u8 0,.int .u8 0,.int .u8 0,.int .u8 0,.int .u8 0,.int .u8 0,.int .u8 0,.int .u8 0,.int .u8 0,.int .u8 0,.int .u8 0,.int .u8 0,.int .u8 0,.int .u8 0,.int .u8 0,.int .u8 0,.int .u8 0,.int .u8 0,.int .u8 0,.int .u8 0,.int .u8 0,.int .u8 0,.int .u8 0,.int .u8 0,.int .u8 0,.int .u8 0,.int .u8 0,.int .u8 0,.int .u8 0,.int .u8 0,.int .u8 0,.int .u8 0,.int .u8 0,.int .u8 0,.int .u8 0,.int .u8 0,.int .u8 0,.int .u8 0,.int .u8 0,.int .u8 0,.int .u8 0,.int .u8 0,.int .u8 0,.int .u8 0] : Array Value) = arrOf 64 (fun _ => .int .u8 0):=rfl
theorem blockOf_calls (A : Option Addr) (n c : Nat) (y : Nat → Nat) (hy : ∀ j,y j < 256) (hnc : n ≤ c) (hn : n ≤ 1048576) (w : World) (hK : KT w) (hS : Src w A n y w.heap.size) :
  Calls Tryz.prog 130 #[.slice A n c] w fun e w' => e = .returned (.agg (arrOf 64 fun j => .int .u8 (kb y n j : Nat))) ∧ Below w.heap.size w w':=by
 have HK:=veil hK
 have HS:=veil hS
 have HY:=veil hy
 have hg0:=hK.lt
 clear hK hS hy
 go_enter Tryz.func130,Tryz.ntmps130
 go_upto_region 2 with (fail)
 rw [zB64]
 have hN0:=zcm w 64 116 (fun _ => Value.int .u8 0) rfl
 have hb0 : Below w.heap.size w (w.alloc (.cells (arrOf 64 (fun _ => .int .u8 0)) 116)):=(Below.refl _ _).alloc (Nat.le_refl _) _
 have hz0 : (w.alloc (.cells (arrOf 64 (fun _ => .int .u8 0)) 116)).heap.size = w.heap.size + 1:=by simp
 generalize w.alloc (.cells (arrOf 64 (fun _ => .int .u8 0)) 116) = w0 at *
 have hR1:=zcm w0 64 116 (fun _ => Value.int .u8 0) rfl
 rw [hz0] at hR1
 have hN1:=hN0.alloc (.cells (arrOf 64 (fun _ => .int .u8 0)) 116)
 have hb1:=hb0.alloc hb0.size (.cells (arrOf 64 (fun _ => .int .u8 0)) 116)
 have hz1 : (w0.alloc (.cells (arrOf 64 (fun _ => .int .u8 0)) 116)).heap.size = w.heap.size + 1 + 1:=by simp [hz0]
 generalize w0.alloc (.cells (arrOf 64 (fun _ => .int .u8 0)) 116) = w1 at *
 clear hN0 hb0 hz0
 have hzle : w.heap.size + 1 < w1.heap.size:=by omega
 by_cases hlong : n > 64
 ·
  have hil : (64 : Int) < (n : Int):=by omega
  go_wp2_with fail
  refine (sum_calls A n c y HY.out hnc hn w1 (zhw HK.out hb1) (src_now HS.out hb1 (by omega))).mono ?_
  rintro e w3 ⟨rfl,hb3⟩
  have HZ:=veil (And.intro (zcr y n) (And.intro (show (dgst y n).all (·.oneCell') = true from zcj fun _ _ => rfl) (show (Tryz.prog.info? 26).map (·.size) = some (dgst y n).size by rw [zcr]; exact infoD)))
  have hR3:=zad hR1 hb3 (by omega)
  have hN3:=zad hN1 hb3 (by omega)
  have hB3:=hb1.trans (hb3.mono (by omega))
  have hz3:=hb3.size
  obtain ⟨D,hD⟩ : ∃ D,D = dgst y n:=⟨_,rfl⟩
  rw [← hD] at HZ ⊢
  have HD:=veil hD
  clear hD hR1 hN1 hb1 hb3
  go_upto_region 4 with ((with_reducible refine zbw ?_); refine wpList_store_row rfl 26 _ _ rfl w3.heap.size D rfl rfl 26 _ (heap_alloc_last w3 _) HZ.out.2.2 (by rw [HZ.out.1]; rfl) HZ.out.2.1 ?_; rw [World.setRow_alloc_new])
  have hD4 : (w3.alloc (.cells D 26)).rowIs w3.heap.size 26 32 (fun j => .int .u8 (dByte (shaSt y n) j : Nat)):=by rw [HD.out]; exact zcm w3 32 26 _ rfl
  have hR4:=hR3.alloc (.cells D 26)
  have hN4:=hN3.alloc (.cells D 26)
  have hB4:=hB3.alloc hB3.size (.cells D 26)
  generalize w3.alloc (.cells D 26) = w4 at *
  generalize w3.heap.size = g4 at *
  obtain ⟨t,ht⟩ : ∃ t,t = fun j => dByte (shaSt y n) j:=⟨_,rfl⟩
  have HSR:=veil (show From w4 (some ⟨g4,0,none⟩) 32 (fun j => .int .u8 (t j : Nat)) from .inr ⟨_,rfl,fun j hj => by rw [Addr.add_mid,Nat.zero_add,ht]; exact hD4.cell hj⟩)
  have HT:=veil (show ∀ j,j < 64 → (if j < 32 then Value.int .u8 (t j : Nat) else .int .u8 0) = .int .u8 (kb y n j : Nat) from fun j _ => by
   unfold kb upTo
   rw [if_pos hlong,ht]
   split <;> rfl)
  have HR:=veil hR4
  have HN:=veil hN4
  have HB:=veil hB4
  clear hR4 hN4 hB4 hD4 ht hR3 hN3 hB3 hil
  obtain ⟨E,hE⟩ : ∃ E,E = arrOf 64 (fun j => Value.int .u8 (kb y n j : Nat)):=⟨_,rfl⟩
  have hEs : E.size = 64:=by rw [hE,zay]
  have hE1 : E.all (·.oneCell') = true:=by rw [hE]; exact zcj fun _ _ => rfl
  have HEI:=veil (And.intro hEs (And.intro hE1 (show (Tryz.prog.info? 116).map (·.size) = some E.size by rw [hEs]; exact info64)))
  have HE:=veil hE
  clear hE hEs hE1
  go_wp2_with (first
   | ((with_reducible refine zbk 13 ?_); refine zfw rfl _ _ 46 46 rfl 5 Tryz.underlying46 infoB (w.heap.size + 1) 64 64 (some ⟨g4,0,none⟩) 32 32 rfl rfl 116 64 _ HR.out (by omega) (by omega) (fun j => .int .u8 (t j : Nat)) HSR.out (fun _ _ => rfl) ?_; intro w6 hb6 hr6; have hr6 : w6.rowIs (w.heap.size + 1) 116 64 (fun j => Value.int .u8 (kb y n j : Nat)):=hr6.congr HT.out; have hR6:=blkOf hr6; rw [← HE.out] at hR6; have hR6:=veil hR6; have hN6:=veil (blkOf (zew HN.out hb6 (by omega))); have hB6:=veil (HB.out.trans (But.new hb6 (B:=w.heap.size) (by omega) HB.out.size)); clear hb6 hr6)
   | ((with_reducible refine zbk 14 ?_); refine wpList_load_row rfl 116 _ rfl (w.heap.size + 1) rfl 116 E (0,0) _ hR6.out Tryz.underlying116 rfl HEI.out.2.2 ?_)
   | ((with_reducible refine zbw ?_); refine wpList_store_row rfl 116 _ _ rfl w.heap.size E rfl rfl 116 _ hN6.out HEI.out.2.2 (by rw [HEI.out.1,zay]) HEI.out.2.1 ?_))
  exact bodyPost_ret (results_cell_row rfl _ _ w.heap.size 116 E (0,0) _ rfl (setRow_heap w6 w.heap.size _ E 116 (0,0) hN6.out) Tryz.underlying116 rfl HEI.out.2.2) rfl ⟨by rw [HE.out],zbr hB6.out (Nat.le_refl _) _⟩
 ·
  have hil : ¬ ((64 : Int) < (n : Int)):=by omega
  have HSR:=veil (from_now HS.out hb1)
  have HT:=veil (show ∀ j,j < 64 → (if j < n then Value.int .u8 (y j : Nat) else .int .u8 0) = .int .u8 (kb y n j : Nat) from fun j _ => by
   unfold kb upTo
   rw [if_neg hlong]
   split <;> rfl)
  have HR:=veil hR1
  have HN:=veil hN1
  have HB:=veil hb1
  clear hR1 hN1 hb1
  obtain ⟨E,hE⟩ : ∃ E,E = arrOf 64 (fun j => Value.int .u8 (kb y n j : Nat)):=⟨_,rfl⟩
  have hEs : E.size = 64:=by rw [hE,zay]
  have hE1 : E.all (·.oneCell') = true:=by rw [hE]; exact zcj fun _ _ => rfl
  have HEI:=veil (And.intro hEs (And.intro hE1 (show (Tryz.prog.info? 116).map (·.size) = some E.size by rw [hEs]; exact info64)))
  have HE:=veil hE
  clear hE hEs hE1
  go_wp2_with (first
   | ((with_reducible refine zbk 13 ?_); refine zfw rfl _ _ 46 46 rfl 5 Tryz.underlying46 infoB (w.heap.size + 1) 64 64 A n c rfl rfl 116 64 _ HR.out (by omega) (by omega) (fun j => .int .u8 (y j : Nat)) HSR.out (fun _ _ => rfl) ?_; intro w6 hb6 hr6; have hr6 : w6.rowIs (w.heap.size + 1) 116 64 (fun j => Value.int .u8 (kb y n j : Nat)):=hr6.congr HT.out; have hR6:=blkOf hr6; rw [← HE.out] at hR6; have hR6:=veil hR6; have hN6:=veil (blkOf (zew HN.out hb6 (by omega))); have hB6:=veil (HB.out.trans (But.new hb6 (B:=w.heap.size) (by omega) HB.out.size)); clear hb6 hr6)
   | ((with_reducible refine zbk 14 ?_); refine wpList_load_row rfl 116 _ rfl (w.heap.size + 1) rfl 116 E (0,0) _ hR6.out Tryz.underlying116 rfl HEI.out.2.2 ?_)
   | ((with_reducible refine zbw ?_); refine wpList_store_row rfl 116 _ _ rfl w.heap.size E rfl rfl 116 _ hN6.out HEI.out.2.2 (by rw [HEI.out.1,zay]) HEI.out.2.1 ?_))
  exact bodyPost_ret (results_cell_row rfl _ _ w.heap.size 116 E (0,0) _ rfl (setRow_heap w6 w.heap.size _ E 116 (0,0) hN6.out) Tryz.underlying116 rfl HEI.out.2.2) rfl ⟨by rw [HE.out],zbr hB6.out (Nat.le_refl _) _⟩
theorem text_one (t : Nat → Nat) : textN (fun _ => 32) (fun _ => t) 1 = t:=zhg _ t
theorem parts_one {W : World} {b g : Nat} {t : Nat → Nat} (ht : ∀ j,t j < 256) (hb : W.cell? ⟨b,0,none⟩ = some (.slice (some ⟨g,0,none⟩) 32 32)) (hg : g < W.heap.size) (hc : ∀ j,j < 32 → W.cell? ⟨g,j,none⟩ = some (.int .u8 (t j : Nat))) :
  Parts3 W (some ⟨b,0,none⟩) 1 (fun _ => some ⟨g,0,none⟩) (fun _ => 32) (fun _ => 32) (fun _ => t) where
 row:=.inr ⟨b,0,rfl,World.block_lt_of_cell? W _ hb,fun r hr => by
                                     obtain rfl : r = 0:=by omega
                                     exact hb⟩
 src:=fun r hr => .inr ⟨g,0,rfl,hg,by omega,fun j hj => by rw [Nat.zero_add]; exact hc j hj⟩
 cap:=fun _ _ => Nat.le_refl _
 lt:=fun _ => ht
theorem ofmac_calls (K : Option Addr) (n c : Nat) (y : Nat → Nat) (hy : ∀ j,y j < 256) (hnc : n ≤ c) (hn : n ≤ 1048576) (AL : Option Addr) (nl cl : Nat) (A : Nat → Option Addr) (L C : Nat → Nat) (Y : Nat → Nat → Nat) (hnl : nl ≤ 100000) (hT : lenN L nl ≤ 100000)
  (w : World) (hK : KT w) (hS : Src w K n y w.heap.size) (hP : Parts3 w AL nl A L C Y) :
  Calls Tryz.prog 120 #[.slice K n c,.slice AL nl cl] w fun e w' => e = .returned (.agg (macD y n (textN L Y nl) (lenN L nl))) ∧ Below w.heap.size w w':=by
 have HK:=veil hK
 have HS:=veil hS
 have HY:=veil hy
 have HP:=veil hP
 have HT:=veil (And.intro hT hnl)
 have hg0:=hK.lt
 clear hK hS hy hP hT hnl
 go_enter Tryz.func120,Tryz.ntmps120
 go_upto_region 1 with (fail)
 rw [zeros32]
 have hR1:=zcm w 32 26 (fun _ => Value.int .u8 0) rfl
 have hb1 : Below w.heap.size w (w.alloc (.cells (arrOf 32 (fun _ => .int .u8 0)) 26)):=(Below.refl _ _).alloc (Nat.le_refl _) _
 generalize w.alloc (.cells (arrOf 32 (fun _ => .int .u8 0)) 26) = w1 at *
 go_wp2_with fail
 refine (blockOf_calls K n c y HY.out hnc hn w1 (zhw HK.out hb1) (src_now HS.out hb1 hb1.size)).mono ?_
 rintro e w2 ⟨rfl,hb2⟩
 have hR2:=zad hR1 hb2 hR1.lt
 have hB2:=hb1.trans (hb2.mono hb1.size)
 have hlt2:=hR2.lt
 obtain ⟨E,hE⟩ : ∃ E,E = arrOf 64 (fun j => Value.int .u8 (kb y n j : Nat)):=⟨_,rfl⟩
 have hEs : E.size = 64:=by rw [hE,zay]
 have hE1 : E.all (·.oneCell') = true:=by rw [hE]; exact zcj fun _ _ => rfl
 have HEI:=veil (And.intro hEs (And.intro hE1 (show (Tryz.prog.info? 116).map (·.size) = some E.size by rw [hEs]; exact info64)))
 rw [← hE]
 have HE:=veil hE
 clear hE hEs hE1 hR1 hb1 hb2
 have HM1:=veil (fun W (hk : KT W) (hp : Parts3 W AL nl A L C Y) => ziq (kb y n) (kb_lt HY.out n) 54 (by decide) AL nl cl A L C Y HT.out.2 HT.out.1 W hk hp)
 have HM2:=veil (fun W g d (t : Nat → Nat) (ht : ∀ j,t j < 256) (hk : KT W) (hp : Parts3 W (some ⟨g,0,none⟩) 1 (fun _ => some ⟨d,0,none⟩) (fun _ => 32) (fun _ => 32) (fun _ => t)) =>
  ziq (kb y n) (kb_lt HY.out n) 92 (by decide) (some ⟨g,0,none⟩) 1 1 (fun _ => some ⟨d,0,none⟩) (fun _ => 32) (fun _ => 32) (fun _ => t) (by decide) (by decide) W hk hp)
 rw [← HE.out] at HM1 HM2
 go_upto_region 2 with ((with_reducible refine zbw ?_); refine wpList_store_row rfl 116 _ _ rfl w2.heap.size E rfl rfl 116 _ (heap_alloc_last w2 _) HEI.out.2.2 (by rw [HEI.out.1]; rfl) HEI.out.2.1 ?_; rw [World.setRow_alloc_new])
 have hE3 : (w2.alloc (.cells E 116)).heap[w2.heap.size]? = some (.cells E 116 (0,0)):=heap_alloc_last w2 _
 have hR3:=hR2.alloc (.cells E 116)
 have hB3:=hB2.alloc hB2.size (.cells E 116)
 have hlt3 : w2.heap.size < (w2.alloc (.cells E 116)).heap.size:=by simp
 generalize w2.alloc (.cells E 116) = w3 at *
 generalize hg5 : w2.heap.size = g5 at *
 clear hR2 hB2 hg5
 obtain ⟨D,hD⟩ : ∃ D,D = dgst (macIn y n (textN L Y nl)) (64 + lenN L nl):=⟨_,rfl⟩
 have HZ:=veil (And.intro (zcr (macIn y n (textN L Y nl)) (64 + lenN L nl)) (And.intro (show (dgst (macIn y n (textN L Y nl)) (64 + lenN L nl)).all (·.oneCell') = true from zcj fun _ _ => rfl) (show (Tryz.prog.info? 26).map (·.size) = some (dgst (macIn y n (textN L Y nl)) (64 + lenN L nl)).size by rw [zcr]; exact infoD)))
 have HM1':=veil (show ∀ W,KT W → Parts3 W AL nl A L C Y → Calls Tryz.prog 131 #[.agg E,.int .u8 54,.slice AL nl cl] W fun e W' => e = .returned (.agg D) ∧ Below W.heap.size W W' from by rw [hD]; exact HM1.out)
 rw [← hD] at HZ
 have HD:=veil hD
 have HE3:=veil hE3
 have H3:=veil (And.intro hR3 hB3)
 clear hD HM1 hE3 hR3 hB3
 go_upto_region 3 with (first
  | ((with_reducible refine zbk 9 ?_); refine wpList_load_row rfl 116 _ rfl g5 rfl 116 E (0,0) _ HE3.out Tryz.underlying116 rfl HEI.out.2.2 ?_)
  | (go_at_call 131; refine (HM1'.out w3 (zhw HK.out H3.out.2) (HP.out.call H3.out.2)).mono ?_; rintro e w4 ⟨rfl,hb4⟩)
  | ((with_reducible refine zbw ?_); refine wpList_store_row rfl 26 _ _ rfl w4.heap.size D rfl rfl 26 _ (heap_alloc_last w4 _) HZ.out.2.2 (by rw [HZ.out.1]; rfl) HZ.out.2.1 ?_; rw [World.setRow_alloc_new]))
 have hE5 : (w4.alloc (.cells D 26)).heap[g5]? = some (.cells E 116 (0,0)):=((Below.heap_alloc _ _ _ (by have:=hb4.size; omega)).trans (hb4.block g5 hlt3)).trans HE3.out
 have hR5:=(zad H3.out.1 hb4 (by omega)).alloc (.cells D 26)
 have hB5:=(H3.out.2.trans (hb4.mono H3.out.2.size)).alloc (H3.out.2.trans (hb4.mono H3.out.2.size)).size (.cells D 26)
 have hD5 : (w4.alloc (.cells D 26)).rowIs w4.heap.size 26 32 (fun j => .int .u8 (dByte (shaSt (macIn y n (textN L Y nl)) (64 + lenN L nl)) j : Nat)):=by rw [HD.out]; exact zcm w4 32 26 _ rfl
 have hlt4 : g5 < w4.heap.size:=by have:=hb4.size; omega
 have hlt5 : w4.heap.size < (w4.alloc (.cells D 26)).heap.size:=by simp
 generalize w4.alloc (.cells D 26) = w5 at *
 generalize hg6 : w4.heap.size = g6 at *
 clear hb4 H3 HE3 HM1' hg6
 obtain ⟨t,ht⟩ : ∃ t,t = fun j => dByte (shaSt (macIn y n (textN L Y nl)) (64 + lenN L nl)) j:=⟨_,rfl⟩
 have hD5 : w5.rowIs g6 26 32 (fun j => .int .u8 (t j : Nat)):=by rw [ht]; exact hD5
 obtain ⟨F,hF⟩ : ∃ F,F = macD y n (textN L Y nl) (lenN L nl):=⟨_,rfl⟩
 have HF:=veil (show F.size = 32 ∧ F.all (·.oneCell') = true ∧ (Tryz.prog.info? 26).map (·.size) = some F.size from by
  rw [hF]; exact ⟨zcr _ _,zcj fun _ _ => rfl,by show _ = some (dgst _ _).size; rw [zcr]; exact infoD⟩)
 have HM3:=veil (show ∀ W g,KT W → But w.heap.size w5 W → W.cell? ⟨g,0,none⟩ = some (.slice (some ⟨g6,0,none⟩) 32 32) → Calls Tryz.prog 131 #[.agg E,.int .u8 92,.slice (some ⟨g,0,none⟩) 1 1] W fun e W' => e = .returned (.agg F) ∧ Below W.heap.size W W' from fun W g hk hbt hc => by
  have h:=HM2.out W g g6 t (fun j => by rw [ht]; exact ziu _ j) hk (parts_one (fun j => by rw [ht]; exact ziu _ j) hc (by have:=hbt.size; omega) (fun j hj => (World.cell?_of_block (a:=⟨g6,j,none⟩) (hbt.block g6 hlt5 (by simp; omega))).trans (hD5.cell hj)))
  rw [text_one,ht] at h
  rw [hF]
  exact h)
 have HFF:=veil hF
 have hrg : w5.rangeAt g5 0 E.toList:=fun j v hv => by
  rw [Nat.zero_add,cell_of_row w5 g5 j E 116 (0,0) hE5]
  simpa using hv
 have HN:=veil hR5
 have hoF : ∀ v ∈ F.toList,v.oneCell' = true:=fun v hv => (Array.all_eq_true_iff_forall_mem.1 HF.out.2.1) v (by simpa using hv)
 have hiF : (Tryz.prog.info? 26).map (·.size) = some F.toList.length:=by rw [Array.length_toList]; exact HF.out.2.2
 have HK5:=veil (And.intro (zhw HK.out hB5) hB5)
 have hu:=Tryz.underlying116
 have hii : (Tryz.prog.info? 116).map (·.size) = some E.toList.length:=by rw [Array.length_toList]; exact HEI.out.2.2
 have hl64 : E.toList.length = 64:=by rw [Array.length_toList]; exact HEI.out.1
 have hone : ∀ v ∈ E.toList,v.oneCell' = true:=fun v hv => (Array.all_eq_true_iff_forall_mem.1 HEI.out.2.1) v (by simpa using hv)
 have hT : E.toList.toArray = E:=by simp
 obtain ⟨Z,hZ⟩ : ∃ Z,Z = E.toList:=⟨_,rfl⟩
 rw [← hZ] at hii hl64 hone hT hrg
 have hg5 : g5 < w5.heap.size:=by omega
 clear hZ hF ht hD5 HM2 hE5 hR5 hB5 HE HD HZ HEI
 have hS0 : w5.rangeAt g5 0 Z ∧ But w.heap.size w5 w5:=⟨hrg,But.refl _ _⟩
 go_region_held3 (fun w' => w'.rangeAt g5 0 Z ∧ But w.heap.size w5 w')
  (first
   | with_reducible assumption
   | exact hS0
   | exact keepD hS0
   | exact keepD (keepA hg5 hS0)
   | exact keepC hb' hgW (by assumption)
   | exact keepS (Nat.ne_of_gt hlt2) (by assumption))
  (first
   | (go_at_call 131; have hgW:=(show g5 < (w5.alloc (.cells #[.slice (some ⟨g6,0,none⟩) 32 32] 46)).drew.heap.size from by simp [World.drew]; omega); refine (HM3.out _ w5.heap.size ((HK5.out.1.alloc _).drew) (But.alloc (But.refl _ w5) _).drew (by rw [World.cell?_drew,World.cell?_alloc_mark]; rfl)).mono ?_; rintro e w' ⟨rfl,hb'⟩; have hN':=veil (zad (zch (HN.out.alloc (.cells #[.slice (some ⟨g6,0,none⟩) 32 32] 46)) 1) hb' (by omega)); have hth:=there_row hN'.out (show F.toList.length = 32 by rw [Array.length_toList]; exact HF.out.1)))
 rename (_ ∧ But _ _ _) => hHeld
 clear hu hrg hT hone hl64 hii hS0 hoF hiF hth
 go_wp2
 exact bodyPost_ret (results_cell_row rfl _ _ w.heap.size 26 F (0,0) _ rfl (blk_setCells hN'.out HF.out.1) Tryz.underlying26 rfl HF.out.2.2) rfl ⟨by rw [HFF.out],HK5.out.2.trans (But.new hHeld.2 (B:=w.heap.size) (Nat.le_refl _) HK5.out.2.size)⟩
def sb (s : KV) (j : Nat) : Value:=.int .u8 ((if j < 32 then s.k j else s.v (j - 32) : Nat) : Int)
def SRow (w : World) (g : Nat) (s : KV) : Prop:=w.rowIs g 125 64 (sb s)
section
variable {w w' : World} {g : Nat} {s : KV}
theorem SRow.lt (h : SRow w g s) : g < w.heap.size:=World.rowIs.lt h
theorem SRow.key (h : SRow w g s) : Src w (some ⟨g,0,none⟩) 32 s.k w.heap.size:=.inr ⟨g,0,rfl,h.lt,Nat.ne_of_lt h.lt,fun j hj => by
 have h1:=World.rowIs.cell h (show j < 64 by omega)
 unfold sb at h1
 rw [if_pos hj] at h1
 rw [Nat.zero_add]; exact h1⟩
theorem SRow.cellV (h : SRow w g s) (j : Nat) (hj : j < 32) : w.cell? ⟨g,32 + j,none⟩ = some (.int .u8 (s.v j : Nat)):=by
 have h1:=World.rowIs.cell h (show 32 + j < 64 by omega)
 unfold sb at h1
 rw [if_neg (by omega),show 32 + j - 32 = j by omega] at h1
 exact h1
theorem SRow.val (h : SRow w g s) : Src w (some ⟨g,32,none⟩) 32 s.v w.heap.size:=.inr ⟨g,32,rfl,h.lt,Nat.ne_of_lt h.lt,h.cellV⟩
theorem SRow.call (h : SRow w g s) (hb : Below w.heap.size w w') : SRow w' g s:=zad h hb h.lt
theorem SRow.but {r : Nat} (h : SRow w g s) (k : But r w w') (hne : g ≠ r) : SRow w' g s:=zew h k hne
theorem SRow.alloc (h : SRow w g s) (o : Obj) : SRow (w.alloc o) g s:=World.rowIs.alloc h o
theorem SRow.putV {y : Nat → Nat} {F : Array Value} (h : SRow w g s) (hF : F = arrOf 32 (fun i => .int .u8 (y i : Nat))) : SRow (w.setCells g 32 F.toList) g ⟨s.k,y⟩ :=
 (zea F.toList 32 w (sb s) h).congr fun j hj => by
  have hl : F.toList.length = 32:=by rw [Array.length_toList,hF,zay]
  unfold sb
  by_cases h1 : j < 32
  ·
   rw [if_neg (by omega),if_pos h1,if_pos h1]
  ·
   rw [if_pos (by omega),if_neg h1,List.getD_eq_getElem?_getD,Array.getElem?_toList,hF,zcu _ (by omega)]
   rfl
theorem SRow.putK {y : Nat → Nat} {F : Array Value} (h : SRow w g s) (hF : F = arrOf 32 (fun i => .int .u8 (y i : Nat))) : SRow (w.setCells g 0 F.toList) g ⟨y,s.v⟩ :=
 (zea F.toList 0 w (sb s) h).congr fun j hj => by
  have hl : F.toList.length = 32:=by rw [Array.length_toList,hF,zay]
  unfold sb
  by_cases h1 : j < 32
  ·
   rw [if_pos (by omega),if_pos h1,List.getD_eq_getElem?_getD,Array.getElem?_toList,hF,Nat.sub_zero,zcu _ (by omega)]
   rfl
  ·
   rw [if_neg (by omega),if_neg h1,if_neg h1]
theorem there_mid {b t n o m : Nat} {f : Nat → Value} (h : w.rowIs b t n f) (hm : o + m ≤ n) : w.there b o m:=fun j hj => by
 rw [h.cell (by omega)]
 exact ⟨rfl,h.frozen _⟩
end
theorem parts_at {W : World} {b g o : Nat} {t : Nat → Nat} (ht : ∀ j,t j < 256) (hb : W.cell? ⟨b,0,none⟩ = some (.slice (some ⟨g,o,none⟩) 32 32)) (hg : g < W.heap.size) (hc : ∀ j,j < 32 → W.cell? ⟨g,o + j,none⟩ = some (.int .u8 (t j : Nat))) :
  Parts3 W (some ⟨b,0,none⟩) 1 (fun _ => some ⟨g,o,none⟩) (fun _ => 32) (fun _ => 32) (fun _ => t) where
 row:=.inr ⟨b,0,rfl,World.block_lt_of_cell? W _ hb,fun r hr => by
                                     obtain rfl : r = 0:=by omega
                                     exact hb⟩
 src:=fun r hr => .inr ⟨g,o,rfl,hg,by omega,fun j hj => hc j hj⟩
 cap:=fun _ _ => Nat.le_refl _
 lt:=fun _ => ht
theorem step_calls (g : Nat) (s : KV) (hs : s.Ok) (w : World) (hK : KT w) (hS : SRow w g s) :
  Calls Tryz.prog 103 #[.pointer (some ⟨g,0,none⟩)] w fun e w' => e = .returned (.tuple #[]) ∧ SRow w' g s.step ∧ But g w w':=by
 obtain ⟨F,hF⟩ : ∃ F,F = macD s.k 32 s.v 32:=⟨_,rfl⟩
 have HF:=veil (show F.size = 32 ∧ F.all (·.oneCell') = true ∧ (Tryz.prog.info? 26).map (·.size) = some F.size from by
  rw [hF]; exact ⟨zcr _ _,zcj fun _ _ => rfl,by show _ = some (dgst _ _).size; rw [zcr]; exact infoD⟩)
 have HM:=veil (show ∀ W b,Below w.heap.size w W → W.cell? ⟨b,0,none⟩ = some (.slice (some ⟨g,32,none⟩) 32 32) → Calls Tryz.prog 120 #[.slice (some ⟨g,0,none⟩) 32 32,.slice (some ⟨b,0,none⟩) 1 1] W fun e W' => e = .returned (.agg F) ∧ Below W.heap.size W W' from fun W b hb hc => by
  have hS':=hS.call hb
  have h:=ofmac_calls (some ⟨g,0,none⟩) 32 32 s.k hs.k (by decide) (by decide) (some ⟨b,0,none⟩) 1 1 (fun _ => some ⟨g,32,none⟩) (fun _ => 32) (fun _ => 32) (fun _ => s.v) (by decide) (by decide) W (hK.call hb) hS'.key (parts_at hs.v hc hS'.lt hS'.cellV)
  rw [text_one] at h
  rw [hF]
  exact h)
 have HFF:=veil (hF.trans (macD_nb _ _ _ _))
 have HS:=veil hS
 have hoF : ∀ v ∈ F.toList,v.oneCell' = true:=fun v hv => (Array.all_eq_true_iff_forall_mem.1 HF.out.2.1) v (by simpa using hv)
 have hiF : (Tryz.prog.info? 26).map (·.size) = some F.toList.length:=by rw [Array.length_toList]; exact HF.out.2.2
 have hS0 : Bt g 125 64 w w:=.of hS (But.refl _ _)
 have hlt:=hS.lt
 clear hF hs hK hS
 go_enter Tryz.func103,Tryz.ntmps103
 go_region_held3 (fun w' => Bt g 125 64 w w')
  (first
   | with_reducible assumption
   | exact hS0
   | exact hS0.drew
   | exact hS0.alloc _
   | exact (hS0.alloc _).drew
   | exact Bt.drew (by with_reducible assumption)
   | exact Bt.setCells (by with_reducible assumption) _ _
   | exact Bt.call (by with_reducible assumption) (by assumption))
  (first
   | (go_at_call 120; refine (HM.out _ w.heap.size ((Below.refl _ _).alloc (Nat.le_refl _) _).drew (by rw [World.cell?_drew,World.cell?_alloc_mark]; rfl)).mono ?_; rintro e w' ⟨rfl,hb'⟩; have hN':=veil (HS.out.call (((Below.refl _ _).alloc (Nat.le_refl _) _).drew.trans (hb'.mono (by simp [World.drew])))); have hth:=there_mid (o:=32) (m:=F.toList.length) hN'.out (by rw [Array.length_toList,HF.out.1]; decide)))
 rename (Bt _ _ _ _ _) => hHeld
 clear hoF hiF hS0 hth
 go_wp2
 go_end0
 exact ⟨rfl,hN'.out.putV HFF.out,hHeld.1⟩
def pL (L : Nat → Nat) (r : Nat) : Nat:=if r = 0 then 32 else if r = 1 then 1 else L (r - 2)
def pY (v : Nat → Nat) (b : Nat) (Y : Nat → Nat → Nat) (r : Nat) : Nat → Nat:=if r = 0 then v else if r = 1 then cat (fun _ => b) 1 none0 else Y (r - 2)
theorem textN_two (v : Nat → Nat) (b : Nat) (L : Nat → Nat) (Y : Nat → Nat → Nat) (n : Nat) :
  textN (pL L) (pY v b Y) (2 + n) = tx v b (textN L Y n) ∧ lenN (pL L) (2 + n) = 33 + lenN L n:=by
 induction n with
 | zero =>
  refine ⟨?_,rfl⟩
  show cat (cat (fun _ => 0) 0 v) 32 (cat (fun _ => b) 1 none0) = cat v 32 (cat (fun _ => b) 1 none0)
  rw [zhg]
 | succ n ih =>
  obtain ⟨h1,h2⟩:=ih
  have e : 2 + (n + 1) = (2 + n) + 1:=by omega
  have e2 : pY v b Y (2 + n) = Y n:=by
   unfold pY
   rw [if_neg (by omega),if_neg (by omega),show 2 + n - 2 = n by omega]
  have e3 : pL L (2 + n) = L n:=by
   unfold pL
   rw [if_neg (by omega),if_neg (by omega),show 2 + n - 2 = n by omega]
  rw [e]
  refine ⟨?_,?_⟩
  ·
   show cat (textN _ _ (2 + n)) (lenN _ (2 + n)) (pY v b Y (2 + n)) = tx v b (cat (textN L Y n) (lenN L n) (Y n))
   rw [h1,h2,e2]
   unfold tx
   rw [show 33 + lenN L n = 32 + (1 + lenN L n) by omega,cat_assoc,cat_assoc]
  ·
   show lenN _ (2 + n) + pL L (2 + n) = 33 + (lenN L n + L n)
   rw [h2,e3]
   omega
theorem infoS3 : (Tryz.prog.info? 46).map (fun i => (i.zero,i.size,i.bytes)) = some (some (.slice none 0 0),1,24):=by kernel_rfl
theorem parts_two {W : World} {g g1 g3 b : Nat} {s : KV} (hs : s.Ok) (hb : b < 256) {np : Nat} {AL : Option Addr} {A : Nat → Option Addr} {L C : Nat → Nat} {Y : Nat → Nat → Nat} (hS : SRow W g s) (hP : Parts3 W AL np A L C Y)
  (h1 : W.cell? ⟨g1,0,none⟩ = some (.int .u8 (b : Int)))
  (h3 : Pre W g3 46 (2 + np) (fun j => if j < 2 then (if j = 0 then .slice (some ⟨g,32,none⟩) 32 32 else .slice (some ⟨g1,0,none⟩) 1 1) else .slice (A (j - 2)) (L (j - 2)) (C (j - 2)))) :
  Parts3 W (some ⟨g3,0,none⟩) (2 + np) (fun r => if r = 0 then some ⟨g,32,none⟩ else if r = 1 then some ⟨g1,0,none⟩ else A (r - 2)) (pL L) (pL C) (pY s.v b Y) where
 row:=.inr ⟨g3,0,rfl,h3.lt,fun r hr => by
  rw [Nat.zero_add,h3.cell hr]
  unfold pL
  by_cases e0 : r = 0
  ·
   subst e0; rfl
  ·
   by_cases e1 : r = 1
   ·
    subst e1; rfl
   ·
    simp only [e0,e1,if_false,show ¬ r < 2 by omega]⟩
 src:=fun r hr => by
  unfold pL pY
  by_cases e0 : r = 0
  ·
   subst e0; exact hS.val
  ·
   by_cases e1 : r = 1
   ·
    subst e1
    exact .inr ⟨g1,0,rfl,World.block_lt_of_cell? W _ h1,Nat.ne_of_lt (World.block_lt_of_cell? W _ h1),fun j hj => by
     have hj' : j < 1:=hj
     obtain rfl : j = 0:=by omega
     exact h1⟩
   ·
    simp only [e0,e1,if_false]
    exact hP.src (r - 2) (by omega)
 cap:=fun r hr => by
  unfold pL
  by_cases e0 : r = 0
  ·
   subst e0; exact Nat.le_refl _
  ·
   by_cases e1 : r = 1
   ·
    subst e1; exact Nat.le_refl _
   ·
    simp only [e0,e1,if_false]
    exact hP.cap (r - 2) (by omega)
 lt:=fun r j => by
  unfold pY
  split
  ·
   exact hs.v j
  ·
   split
   ·
    exact cat_lt (fun _ => hb) (fun _ => by show (0 : Nat) < 256; decide) j
   ·
    exact hP.lt _ j
theorem nmix_calls (g : Nat) (hg : g ≠ 0) (s : KV) (hs : s.Ok) (b : Nat) (hb : b < 256) (AL : Option Addr) (np cl : Nat) (A : Nat → Option Addr) (L C : Nat → Nat) (Y : Nat → Nat → Nat) (hnp : np ≤ 2) (hT : lenN L np ≤ 1000)
  (w : World) (hK : KT w) (hS : SRow w g s) (hP : Parts3 w AL np A L C Y) :
  Calls Tryz.prog 102 #[.pointer (some ⟨g,0,none⟩),.int .u8 (b : Int),.slice AL np cl] w fun e w' => e = .returned (.tuple #[]) ∧ SRow w' g (s.mix b (textN L Y np) (lenN L np)) ∧ But g w w':=by
 obtain ⟨i8,hi8,hz0,hz1,hz2⟩:=info_parts infoS3
 have HI:=veil (And.intro hi8 (And.intro hz0 (And.intro hz1 hz2)))
 clear hi8 hz0 hz1 hz2
 have HK:=veil hK
 have HS:=veil hS
 have HP:=veil hP
 have HT:=veil (And.intro hnp hT)
 have HB:=veil (And.intro hs hb)
 have HG:=veil hg
 clear hK hS hP hnp hT hs hb hg
 have hz1 : (w.alloc (.cells #[.int .u8 (b : Int)] 5)).heap.size = w.heap.size + 1:=by simp
 have hO:=Own.made (base:=w.heap.size) (e:=46) (f:=fun j => if j = 0 then .slice (some ⟨g,32,none⟩) 32 32 else .slice (some ⟨w.heap.size,0,none⟩) 1 1) (w.alloc (.cells #[.int .u8 (b : Int)] 5))
  (cs:=#[.slice (some ⟨g,32,none⟩) 32 32,.slice (some ⟨w.heap.size,0,none⟩) 1 1]) (by rw [hz1]; omega) (by show 2 ≤ maxLen; decide) (fun i hi => by
   have : i < 2:=hi
   obtain rfl | rfl : i = 0 ∨ i = 1:=by omega
   ·
    rfl
   ·
    rfl)
 rw [hz1] at hO
 have hb2 : Below w.heap.size w ((w.alloc (.cells #[.int .u8 (b : Int)] 5)).alloc (.cells #[.slice (some ⟨g,32,none⟩) 32 32,.slice (some ⟨w.heap.size,0,none⟩) 1 1] 46)):=((Below.refl _ _).alloc (Nat.le_refl _) _).alloc (by rw [hz1]; omega) _
 have hF : From ((w.alloc (.cells #[.int .u8 (b : Int)] 5)).alloc (.cells #[.slice (some ⟨g,32,none⟩) 32 32,.slice (some ⟨w.heap.size,0,none⟩) 1 1] 46)) AL np (fun j => .slice (A j) (L j) (C j)):=by
  rcases HP.out.row with h | ⟨bb,o,h,hlt,hc⟩
  ·
   exact .inl h
  ·
   exact .inr ⟨_,h,fun j hj => by rw [Addr.add_mid]; exact (hb2.cell (p:=⟨bb,o + j,none⟩) hlt).trans (hc j hj)⟩
 have hm : ((w.alloc (.cells #[.int .u8 (b : Int)] 5)).alloc (.cells #[.slice (some ⟨g,32,none⟩) 32 32,.slice (some ⟨w.heap.size,0,none⟩) 1 1] 46)).heap[w.heap.size]? = some (.cells #[.int .u8 (b : Int)] 5 (0,0)):=(Below.heap_alloc _ _ _ (by rw [hz1]; omega)).trans (heap_alloc_last w _)
 have HO:=veil (And.intro hO (And.intro hF (And.intro hb2 hm)))
 clear hO hF hb2 hm hz1
 go_enter Tryz.func102,Tryz.ntmps102
 go_upto_region 1 with (at_builtin; refine zdr _ rfl _ _ _ rfl w.heap.size 46 i8 (.slice none 0 0) 24 Tryz.underlying120 HI.out.1 HI.out.2.1 HI.out.2.2.1 HI.out.2.2.2 rfl _ 2 _ rfl HO.out.1 AL np cl rfl (fun j => .slice (A j) (L j) (C j)) HO.out.2.1 (fun _ => rfl) (by have:=HT.out.1; unfold maxLen; omega) (by have:=HT.out.1; omega) (by simp; omega) ?_; intro v3 w3 hO3 hg3 ha3)
 replace hg3 : World.grownBy _ w3 (some (w.heap.size + 1)):=hg3
 have hb3 : Below w.heap.size w w3:=zes HO.out.2.2.1 hg3 (by simp; omega) (fun k e => by injection e; omega)
 have hm3 : w3.cell? ⟨w.heap.size,0,none⟩ = some (.int .u8 (b : Int)):=by
  rw [cell_of_row w3 _ 0 #[.int .u8 (b : Int)] 5 (0,0) ((hg3.block w.heap.size (by simp; omega) (by intro e; injection e; omega)).trans HO.out.2.2.2)]; rfl
 obtain ⟨g3,cap,rfl,hc3,hbg3,hp3⟩:=hO3.pre (by omega)
 have hP3:=parts_two HB.out.1 HB.out.2 (HS.out.call hb3) (HP.out.call hb3) hm3 hp3
 obtain ⟨F,hF⟩ : ∃ F,F = macD s.k 32 (tx s.v b (textN L Y np)) (33 + lenN L np):=⟨_,rfl⟩
 have HF:=veil (show F.size = 32 ∧ F.all (·.oneCell') = true ∧ (Tryz.prog.info? 26).map (·.size) = some F.size from by
  rw [hF]; exact ⟨zcr _ _,zcj fun _ _ => rfl,by show _ = some (dgst _ _).size; rw [zcr]; exact infoD⟩)
 have hM:=ofmac_calls (some ⟨g,0,none⟩) 32 32 s.k HB.out.1.k (by decide) (by decide) (some ⟨g3,0,none⟩) (2 + np) cap _ _ _ _ (by have:=HT.out.1; omega) (by rw [(textN_two s.v b L Y np).2]; have:=HT.out.2; omega) w3 (HK.out.call hb3) (HS.out.call hb3).key hP3
 rw [(textN_two s.v b L Y np).1,(textN_two s.v b L Y np).2,← hF] at hM
 have HM:=veil hM
 have HFF:=veil (hF.trans (macD_nb _ _ _ _))
 have H3:=veil (And.intro (HS.out.call hb3) hb3)
 clear hF hM hP3 hp3 hm3 hb3 hO3 hg3 ha3 hc3 hbg3 HO HI HP HT
 go_upto_region 2 with (first
  | (go_at_call 120; refine HM.out.mono ?_; rintro e w4 ⟨rfl,hb4⟩)
  | ((with_reducible refine zbw ?_); refine wpList_store_mid rfl 26 _ _ rfl g 0 F rfl rfl (there_mid (o:=0) (H3.out.1.call hb4) (by rw [HF.out.1]; decide)) HF.out.2.2 HF.out.2.1 ?_))
 have hS5:=(H3.out.1.call hb4).putK HFF.out
 have hB5 : But g w (w4.setCells g 0 F.toList):=But.setCells _ _ _ (But.of_below (H3.out.2.trans (hb4.mono H3.out.2.size)))
 generalize w4.setCells g 0 F.toList = w5 at *
 have HQ:=veil (step_calls g (⟨nb s.k 32 (tx s.v b (textN L Y np)) (33 + lenN L np),s.v⟩ : KV) ⟨fun j => nb_lt _ _ _ _ j,HB.out.1.v⟩ w5 (HK.out.grown hB5 (Ne.symm HG.out)) hS5)
 have H5:=veil hB5
 clear hS5 hB5 hb4 H3 HM HF HFF
 go_wp2_with fail
 refine HQ.out.mono ?_
 rintro e w6 ⟨rfl,hS6,hB6⟩
 have H6:=veil (And.intro hS6 (H5.out.trans hB6))
 clear hS6 hB6 H5 HQ
 go_wp2
 go_end0
 exact ⟨rfl,H6.out.1,H6.out.2⟩
section
variable {P : Program} {ops : Array Oper} {o : Oper} {a : Act} {w : World}
theorem yif_load {ty : TypeId} {x : Operand} {g t : Nat} {C : Array Value} {fr : Nat × Nat} {d : TypeDesc} (hw : Region.wanted o (yielded ops a.tmps) = true) (ho : o.op = .load ty x) (hx : a.eval x = ptrTo g) (hb : w.heap[g]? = some (.cells C t fr))
  (hu : P.underlying ty = some d) (hd : d.isRow = true) (hi : (P.info? ty).map (·.size) = some C.size) : YieldsIf P ops (fun W => Ext w W) o (.agg C) a :=
 yieldsIf_load_mid hw ty x ho g 0 hx C.toList d (fun W hW j v hv => by rw [cell_of_row W g (0 + j) C t fr (hW.block hb),Nat.zero_add]; simpa using hv) hu hd (by simpa using hi)
end
end Go.Proofs.YtmfjigcdhijkjaaGreatDoor
