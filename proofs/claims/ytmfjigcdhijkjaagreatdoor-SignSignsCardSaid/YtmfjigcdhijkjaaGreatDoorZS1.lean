/-
  Of Math Mem Row Made Eql C0 Of Cq Add Sub Cmp G1.
-/
import Derived.WalkKit
import Derived.Deep.OwnRows
import Derived.Deep.Draws
import Derived.Laws.Rows
import Derived.Deep.QuietTactic
import Derived.Test.YtmfjigcdhijkjaaGreatDoorRows
import Derived.Deep.MidRow
import Derived.Deep.WholeRow
import Derived.ChangeKeysEq
import Derived.OrdersHeld
import Derived.StillTail
import Derived.Deep.RegionHeld3
import Derived.WalkSpells
import Derived.WalkLawsBesides
import Derived.Deep.LoopGhost
import Derived.Deep.RegionWith
import Derived.BigQuiet
import Derived.BigRegion
set_option maxRecDepth 1000000
set_option maxHeartbeats 20000000
namespace Go.Proofs.YtmfjigcdhijkjaaGreatDoor
def dg (B n i : Nat) : Nat:=n / B ^ i % B
def cy (B X Y i : Nat) : Nat:=(X % B ^ i + Y % B ^ i) / B ^ i
def bw (B X Y i : Nat) : Nat:=if X % B ^ i < Y % B ^ i then 1 else 0
theorem dg_lt {B : Nat} (hB : 0 < B) (n i : Nat) : dg B n i < B:=Nat.mod_lt _ hB
theorem zdc (B n i : Nat) : n % B ^ (i + 1) = n % B ^ i + B ^ i * dg B n i:=by
 rw [Nat.pow_succ,Nat.mod_mul,dg]
theorem cy_zero (B X Y : Nat) : cy B X Y 0 = 0:=by simp [cy,Nat.mod_one]
theorem cy_le {B : Nat} (hB : 0 < B) (X Y i : Nat) : cy B X Y i ≤ 1:=by
 have hp : 0 < B ^ i:=Nat.pow_pos hB
 have h1:=Nat.mod_lt X hp
 have h2:=Nat.mod_lt Y hp
 unfold cy
 have : (X % B ^ i + Y % B ^ i) / B ^ i < 2:=(Nat.div_lt_iff_lt_mul hp).2 (by omega)
 omega
theorem cy_succ {B : Nat} (hB : 0 < B) (X Y i : Nat) : cy B X Y (i + 1) = (dg B X i + dg B Y i + cy B X Y i) / B:=by
 have hp : 0 < B ^ i:=Nat.pow_pos hB
 unfold cy
 rw [zdc,zdc]
 rw [show X % B ^ i + B ^ i * dg B X i + (Y % B ^ i + B ^ i * dg B Y i) = (X % B ^ i + Y % B ^ i) + B ^ i * (dg B X i + dg B Y i) by rw [Nat.mul_add]; omega]
 rw [Nat.pow_succ,← Nat.div_div_eq_div_mul,Nat.add_mul_div_left _ _ hp]
 congr 1
 omega
theorem dg_add {B : Nat} (hB : 0 < B) (X Y i : Nat) : dg B (X + Y) i = (dg B X i + dg B Y i + cy B X Y i) % B:=by
 have hp : 0 < B ^ i:=Nat.pow_pos hB
 have hX : X = X % B ^ i + B ^ i * (X / B ^ i):=(Nat.mod_add_div _ _).symm
 have hY : Y = Y % B ^ i + B ^ i * (Y / B ^ i):=(Nat.mod_add_div _ _).symm
 have hs : (X + Y) / B ^ i = (X % B ^ i + Y % B ^ i) / B ^ i + (X / B ^ i + Y / B ^ i):=by
  conv => lhs; rw [hX,hY]
  rw [show X % B ^ i + B ^ i * (X / B ^ i) + (Y % B ^ i + B ^ i * (Y / B ^ i)) = (X % B ^ i + Y % B ^ i) + B ^ i * (X / B ^ i + Y / B ^ i) by rw [Nat.mul_add]; omega]
  rw [Nat.add_mul_div_left _ _ hp]
 unfold dg cy
 rw [hs,show (X % B ^ i + Y % B ^ i) / B ^ i + (X / B ^ i + Y / B ^ i) = X / B ^ i + Y / B ^ i + (X % B ^ i + Y % B ^ i) / B ^ i by omega]
 rw [Nat.add_mod,Nat.add_mod (X / B ^ i) (Y / B ^ i)]
 conv => rhs; rw [Nat.add_mod]
theorem cy_top {B : Nat} {X Y n : Nat} (hX : X < B ^ n) (hY : Y < B ^ n) : cy B X Y n = if B ^ n ≤ X + Y then 1 else 0:=by
 unfold cy
 rw [Nat.mod_eq_of_lt hX,Nat.mod_eq_of_lt hY]
 have hp : 0 < B ^ n:=by omega
 split
 ·
  apply Nat.le_antisymm
  ·
   have:=(Nat.div_lt_iff_lt_mul hp (x:=X + Y) (y:=2)).2 (by omega)
   omega
  ·
   exact (Nat.le_div_iff_mul_le hp).2 (by omega)
 ·
  exact Nat.div_eq_of_lt (by omega)
theorem zdj {B : Nat} (n m i : Nat) (h : i < m) : dg B (n % B ^ m) i = dg B n i:=by
 unfold dg
 obtain ⟨d,rfl⟩ : ∃ d,m = i + (d + 1):=⟨m - i - 1,by omega⟩
 rw [Nat.pow_add,Nat.mod_mul_right_div_self,Nat.mod_mod_of_dvd _ (by rw [Nat.pow_succ]; exact Nat.dvd_mul_left _ _)]
theorem ziu {B : Nat} (hB : 0 < B) : ∀ (n : Nat) {X Y : Nat},(∀ i,i < n → dg B X i = dg B Y i) → X % B ^ n = Y % B ^ n
 | 0,X,Y,_ => by simp [Nat.mod_one]
 | n + 1,X,Y,h => by rw [zdc,zdc,ziu hB n (fun i hi => h i (by omega)),h n (by omega)]
theorem zhd {B : Nat} (hB : 0 < B) {n X Y : Nat} (hX : X < B ^ n) (hY : Y < B ^ n) (h : ∀ i,i < n → dg B X i = dg B Y i) : X = Y:=by
 have:=ziu hB n h
 rwa [Nat.mod_eq_of_lt hX,Nat.mod_eq_of_lt hY] at this
theorem bw_zero (B X Y : Nat) : bw B X Y 0 = 0:=by simp [bw,Nat.mod_one]
theorem bw_le (B X Y i : Nat) : bw B X Y i ≤ 1:=by unfold bw; split <;> omega
theorem bw_succ {B : Nat} (hB : 0 < B) (X Y i : Nat) : bw B X Y (i + 1) = if dg B X i < dg B Y i + bw B X Y i then 1 else 0:=by
 have hp : 0 < B ^ i:=Nat.pow_pos hB
 have h1:=Nat.mod_lt X hp
 have h2:=Nat.mod_lt Y hp
 unfold bw
 rw [zdc,zdc]
 generalize dg B X i = x
 generalize dg B Y i = y
 generalize X % B ^ i = r at *
 generalize Y % B ^ i = s at *
 generalize B ^ i = P at *
 by_cases hxy : x < y
 ·
  have : P * x + P ≤ P * y:=by rw [← Nat.mul_succ]; exact Nat.mul_le_mul_left _ hxy
  rw [if_pos (by omega)]; split <;> rw [if_pos (by omega)]
 ·
  by_cases hyx : y < x
  ·
   have : P * y + P ≤ P * x:=by rw [← Nat.mul_succ]; exact Nat.mul_le_mul_left _ hyx
   rw [if_neg (by omega)]; split <;> rw [if_neg (by omega)]
  ·
   have hxy' : x = y:=by omega
   subst hxy'
   by_cases hrs : r < s
   ·
    rw [if_pos (by omega),if_pos hrs,if_pos (by omega)]
   ·
    rw [if_neg (by omega),if_neg hrs,if_neg (by omega)]
theorem dg_sub {B : Nat} (hB : 0 < B) (X Y n i : Nat) (hi : i < n) (hY : Y ≤ B ^ n) : dg B (X + B ^ n - Y) i = (dg B X i + B - dg B Y i - bw B X Y i) % B:=by
 obtain ⟨D,hD⟩ : ∃ D,X + B ^ n - Y = D:=⟨_,rfl⟩
 rw [hD]
 have hDY : D + Y = X + B ^ n:=by omega
 -- the digit of the sum D + Y
 have h1:=dg_add hB D Y i
 have h2 : dg B (D + Y) i = dg B X i:=by
  rw [hDY]
  unfold dg
  obtain ⟨d,rfl⟩ : ∃ d,n = i + (d + 1):=⟨n - i - 1,by omega⟩
  rw [Nat.pow_add,Nat.add_mul_div_left _ _ (Nat.pow_pos hB),Nat.pow_succ,Nat.add_mul_mod_self_right]
 have h3 : cy B D Y i = bw B X Y i:=by
  have hp : 0 < B ^ i:=Nat.pow_pos hB
  have e : (D + Y) % B ^ i = X % B ^ i:=by
   rw [hDY]
   obtain ⟨d,rfl⟩ : ∃ d,n = i + (d + 1):=⟨n - i - 1,by omega⟩
   rw [Nat.pow_add,Nat.add_mul_mod_self_left]
  rw [Nat.add_mod] at e
  have hd:=Nat.mod_lt D hp
  have hy:=Nat.mod_lt Y hp
  unfold cy bw
  rw [← e]
  generalize D % B ^ i = r at *
  generalize Y % B ^ i = s at *
  by_cases h : r + s < B ^ i
  ·
   rw [Nat.mod_eq_of_lt h,Nat.div_eq_of_lt h,if_neg (by omega)]
  ·
   rw [Nat.mod_eq_sub_mod (by omega),Nat.mod_eq_of_lt (by omega),if_pos (by omega)]
   apply Nat.le_antisymm
   ·
    have:=(Nat.div_lt_iff_lt_mul hp (x:=r + s) (y:=2)).2 (by omega)
    omega
   ·
    exact (Nat.le_div_iff_mul_le hp).2 (by omega)
 rw [h2,h3] at h1
 have b1:=dg_lt hB D i
 have b2:=dg_lt hB Y i
 have b3:=bw_le B X Y i
 have b4:=dg_lt hB X i
 generalize dg B D i = d at *
 generalize dg B Y i = y at *
 generalize dg B X i = x at *
 generalize bw B X Y i = b at *
 by_cases h : d + y + b < B
 ·
  rw [Nat.mod_eq_of_lt h] at h1
  rw [Nat.mod_eq_sub_mod (by omega),Nat.mod_eq_of_lt (by omega)]
  omega
 ·
  rw [Nat.mod_eq_sub_mod (by omega),Nat.mod_eq_of_lt (by omega)] at h1
  rw [Nat.mod_eq_of_lt (by omega)]
  omega
theorem bw_top {B X Y n : Nat} (hX : X < B ^ n) (hY : Y < B ^ n) : bw B X Y n = if X < Y then 1 else 0:=by
 unfold bw
 rw [Nat.mod_eq_of_lt hX,Nat.mod_eq_of_lt hY]
/-! ### words of 64 bits,parts of 16 -/
def w64 : Nat:=18446744073709551616
def w16 : Nat:=65536
def top : Nat:=w64 ^ 4
theorem zbf : 0 < w64:=by unfold w64; omega
theorem zhf : 0 < w16:=by unfold w16; omega
theorem zbu : 0 < top:=Nat.pow_pos zbf
def wd (n i : Nat) : Int:=(dg w64 n i : Nat)
theorem wd_lo (n i : Nat) : 0 ≤ wd n i:=Int.natCast_nonneg _
theorem wd_lt (n i : Nat) : wd n i < 18446744073709551616:=by
 have:=dg_lt zbf n i
 unfold wd; unfold w64 at *; omega
theorem wd_le (n i : Nat) : wd n i ≤ 18446744073709551615:=by have:=wd_lt n i; omega
def ofWords (a b c d : Int) : Nat:=a.toNat + w64 * (b.toNat + w64 * (c.toNat + w64 * d.toNat))
theorem ofWords_lt {a b c d : Int} (ha : a < 18446744073709551616) (hb : b < 18446744073709551616) (hc : c < 18446744073709551616) (hd : d < 18446744073709551616) : ofWords a b c d < top:=by
 unfold ofWords top w64
 omega
theorem wd_ofWords {a b c d : Int} (ha0 : 0 ≤ a) (ha : a < 18446744073709551616) (hb0 : 0 ≤ b) (hb : b < 18446744073709551616) (hc0 : 0 ≤ c) (hc : c < 18446744073709551616) (hd0 : 0 ≤ d) (hd : d < 18446744073709551616) :
  wd (ofWords a b c d) 0 = a ∧ wd (ofWords a b c d) 1 = b ∧ wd (ofWords a b c d) 2 = c ∧ wd (ofWords a b c d) 3 = d:=by
 unfold wd dg ofWords w64
 refine ⟨?_,?_,?_,?_⟩ <;> simp <;> omega
theorem zeu (n i : Nat) (h : i < 4) : wd (n % top) i = wd n i:=by
 unfold wd top
 rw [zdj n 4 i h]
def pt (n i : Nat) : Int:=(dg w16 n i : Nat)
theorem pt_lo (n i : Nat) : 0 ≤ pt n i:=Int.natCast_nonneg _
theorem pt_lt (n i : Nat) : pt n i < 65536:=by
 have:=dg_lt zhf n i
 unfold pt; unfold w16 at *; omega
def wk (X i k : Nat) : Int:=((dg w64 X i / w16 ^ k : Nat) : Int)
theorem wk_lo (X i k : Nat) : 0 ≤ wk X i k:=Int.natCast_nonneg _
theorem wk_le (X i k : Nat) : wk X i k ≤ 18446744073709551615:=by
 have h:=dg_lt zbf X i
 have h2 : dg w64 X i / w16 ^ k ≤ dg w64 X i:=Nat.div_le_self _ _
 have h3 : dg w64 X i / w16 ^ k < w64:=by omega
 unfold wk; unfold w64 at h3 ⊢; omega
theorem wk_zero (X i : Nat) : wk X i 0 = wd X i:=by simp [wk,wd]
theorem wk_succ (X i k : Nat) : wk X i (k + 1) = wk X i k / 65536:=by
 unfold wk
 rw [Nat.pow_succ,← Nat.div_div_eq_div_mul,Int.natCast_ediv]
 rfl
theorem w64_w16 : w64 = w16 ^ 4:=by decide
theorem dg_w16 (X i k : Nat) (hk : k < 4) : dg w64 X i / w16 ^ k % w16 = dg w16 X (4 * i + k):=by
 have h : dg w64 X i = X / w16 ^ (4 * i) % w16 ^ 4:=by rw [dg,w64_w16,Nat.pow_mul]
 rw [h]
 show dg w16 (X / w16 ^ (4 * i) % w16 ^ 4) k = _
 rw [zdj _ 4 k hk,dg,dg,Nat.div_div_eq_div_mul,← Nat.pow_add]
theorem wk_pt (X i k : Nat) (hk : k < 4) : wk X i k % 65536 = pt X (4 * i + k):=by
 unfold wk pt
 rw [← dg_w16 X i k hk]
 rfl
theorem wd_pt (X q : Nat) : wd X q = pt X (4 * q) + 65536 * pt X (4 * q + 1) + 4294967296 * pt X (4 * q + 2) + 281474976710656 * pt X (4 * q + 3):=by
 have h0:=dg_w16 X q 0 (by omega)
 have h1:=dg_w16 X q 1 (by omega)
 have h2:=dg_w16 X q 2 (by omega)
 have h3:=dg_w16 X q 3 (by omega)
 have hl:=dg_lt zbf X q
 unfold wd pt
 simp only [Nat.add_zero] at h0
 rw [← h0,← h1,← h2,← h3]
 generalize dg w64 X q = D at *
 unfold w16 w64 at *
 simp only [Nat.pow_zero,Nat.div_one,Nat.reducePow] at *
 omega
end Go.Proofs.YtmfjigcdhijkjaaGreatDoor
namespace Go.Proofs.YtmfjigcdhijkjaaGreatDoor
open Go.RowKit
open Go.Value renaming int → vI
open Go.IntKind renaming u64 → vU
open Go.Act renaming put → aP
open List renaming setIfInBounds_toArray → lA, set_cons_zero → lZ, set_cons_succ → lS
theorem veil {p : Prop} (h : p) : Hid p:=h
section
variable {w w' : World} {b b' t n i B : Nat} {f g : Nat → Value} {cs : Array Value}
theorem zag (hb : b = w.heap.size) (hn : cs.size = n) (h : ∀ i,i < n → cs[i]? = some (f i)) : (w.alloc (.cells cs t)).rowIs b t n f:=by
 subst hb; subst hn
 exact World.rowIs_alloc w cs t f h
theorem zay (h : w.rowIs b t n f) (hne : b ≠ b') (v : Value) : (w.setCell ⟨b',i,none⟩ v).rowIs b t n f:=h.setOther hne v
theorem zab (h : w.rowIs b t n f) (hb : Below B w w') (hlt : b < B) : w'.rowIs b t n f:=h.of_block (hb.block b hlt)
theorem zbx (h : w.rowIs b t n f) (k : Nat) : (w.drewN k).rowIs b t n f:=h
theorem zas {a : World} (h : Below B a w) (hb : B ≤ b) (v : Value) : Below B a (w.setCell ⟨b,i,none⟩ v):=h.setCell hb v
theorem zbm {a : World} (h : Below B a w) (k : Nat) : Below B a (w.drewN k):=⟨h.os,h.tape,h.output,h.size,h.block⟩
theorem arr4 (f : Nat → Value) : ∀ i,i < 4 → (#[f 0,f 1,f 2,f 3] : Array Value)[i]? = some (f i)
 | 0,_ => rfl
 | 1,_ => rfl
 | 2,_ => rfl
 | 3,_ => rfl
 | n + 4,h => by omega
theorem arr8 (f : Nat → Value) : ∀ i,i < 8 → (#[f 0,f 1,f 2,f 3,f 4,f 5,f 6,f 7] : Array Value)[i]? = some (f i)
 | 0,_ => rfl
 | 1,_ => rfl
 | 2,_ => rfl
 | 3,_ => rfl
 | 4,_ => rfl
 | 5,_ => rfl
 | 6,_ => rfl
 | 7,_ => rfl
 | n + 8,h => by omega
theorem zae (h : w.rowIs b t 4 f) : w.cell? ⟨b,0,none⟩ = some (f 0) ∧ w.cell? ⟨b,1,none⟩ = some (f 1) ∧ w.cell? ⟨b,2,none⟩ = some (f 2) ∧ w.cell? ⟨b,3,none⟩ = some (f 3) :=
 ⟨h.cell (by omega),h.cell (by omega),h.cell (by omega),h.cell (by omega)⟩
theorem row_c8 (h : w.rowIs b t 8 f) : w.cell? ⟨b,0,none⟩ = some (f 0) ∧ w.cell? ⟨b,1,none⟩ = some (f 1) ∧ w.cell? ⟨b,2,none⟩ = some (f 2) ∧ w.cell? ⟨b,3,none⟩ = some (f 3) ∧
  w.cell? ⟨b,4,none⟩ = some (f 4) ∧ w.cell? ⟨b,5,none⟩ = some (f 5) ∧ w.cell? ⟨b,6,none⟩ = some (f 6) ∧ w.cell? ⟨b,7,none⟩ = some (f 7) :=
 ⟨h.cell (by omega),h.cell (by omega),h.cell (by omega),h.cell (by omega),h.cell (by omega),h.cell (by omega),h.cell (by omega),h.cell (by omega)⟩
theorem zaj (h : w.rowIs b t n f) : w.frozen? ⟨b,0,none⟩ = false ∧ w.frozen? ⟨b,1,none⟩ = false ∧ w.frozen? ⟨b,2,none⟩ = false ∧ w.frozen? ⟨b,3,none⟩ = false :=
 ⟨h.frozen _,h.frozen _,h.frozen _,h.frozen _⟩
theorem row_f8 (h : w.rowIs b t n f) : w.frozen? ⟨b,0,none⟩ = false ∧ w.frozen? ⟨b,1,none⟩ = false ∧ w.frozen? ⟨b,2,none⟩ = false ∧ w.frozen? ⟨b,3,none⟩ = false ∧
  w.frozen? ⟨b,4,none⟩ = false ∧ w.frozen? ⟨b,5,none⟩ = false ∧ w.frozen? ⟨b,6,none⟩ = false ∧ w.frozen? ⟨b,7,none⟩ = false :=
 ⟨h.frozen _,h.frozen _,h.frozen _,h.frozen _,h.frozen _,h.frozen _,h.frozen _,h.frozen _⟩
theorem arr_eq {c : Array Value} : ∀ {l : List Value},c.size = l.length → (∀ i,i < l.length → c[i]? = l[i]?) → c = l.toArray:=by
 intro l hs h
 apply Array.ext_getElem?
 intro i
 by_cases hi : i < l.length
 ·
  rw [h i hi]; simp
 ·
  rw [Array.getElem?_eq_none (by omega),Array.getElem?_eq_none (by simp; omega)]
theorem blk4 (h : w.rowIs b t 4 f) : w.heap[b]? = some (.cells #[f 0,f 1,f 2,f 3] t (0,0)):=by
 obtain ⟨c,hb,hn,hc⟩:=h
 rw [hb,arr_eq (c:=c) (l:=[f 0,f 1,f 2,f 3]) (by simpa using hn) (fun i hi => by
  have hi4 : i < 4:=by simpa using hi
  rw [hc i hi4]
  exact (by simpa using arr4 f i hi4 : [f 0,f 1,f 2,f 3][i]? = some (f i)).symm)]
theorem blk8 (h : w.rowIs b t 8 f) : w.heap[b]? = some (.cells #[f 0,f 1,f 2,f 3,f 4,f 5,f 6,f 7] t (0,0)):=by
 obtain ⟨c,hb,hn,hc⟩:=h
 rw [hb,arr_eq (c:=c) (l:=[f 0,f 1,f 2,f 3,f 4,f 5,f 6,f 7]) (by simpa using hn) (fun i hi => by
  have hi8 : i < 8:=by simpa using hi
  rw [hc i hi8]
  exact (by simpa using arr8 f i hi8 : [f 0,f 1,f 2,f 3,f 4,f 5,f 6,f 7][i]? = some (f i)).symm)]
theorem put4 (h : w.rowIs b t 4 f) (g : Nat → Value) : ((((w.setCell ⟨b,0,none⟩ (g 0)).setCell ⟨b,1,none⟩ (g 1)).setCell ⟨b,2,none⟩ (g 2)).setCell ⟨b,3,none⟩ (g 3)).rowIs b t 4 g :=
 ((((h.set 0 (g 0)).set 1 (g 1)).set 2 (g 2)).set 3 (g 3)).congr fun i hi => by
  have : i = 0 ∨ i = 1 ∨ i = 2 ∨ i = 3:=by omega
  rcases this with rfl | rfl | rfl | rfl <;> rfl
theorem put8 (h : w.rowIs b t 8 f) (g : Nat → Value) : ((((((((w.setCell ⟨b,0,none⟩ (g 0)).setCell ⟨b,1,none⟩ (g 1)).setCell ⟨b,2,none⟩ (g 2)).setCell ⟨b,3,none⟩ (g 3)).setCell ⟨b,4,none⟩ (g 4)).setCell ⟨b,5,none⟩ (g 5)).setCell ⟨b,6,none⟩ (g 6)).setCell ⟨b,7,none⟩ (g 7)).rowIs b t 8 g :=
 ((((((((h.set 0 (g 0)).set 1 (g 1)).set 2 (g 2)).set 3 (g 3)).set 4 (g 4)).set 5 (g 5)).set 6 (g 6)).set 7 (g 7)).congr fun i hi => by
  have : i = 0 ∨ i = 1 ∨ i = 2 ∨ i = 3 ∨ i = 4 ∨ i = 5 ∨ i = 6 ∨ i = 7:=by omega
  rcases this with rfl | rfl | rfl | rfl | rfl | rfl | rfl | rfl <;> rfl
theorem zam (h : w.rowIs b t n f) (hne : b ≠ b') (v0 v1 v2 v3 : Value) : ((((w.setCell ⟨b',0,none⟩ v0).setCell ⟨b',1,none⟩ v1).setCell ⟨b',2,none⟩ v2).setCell ⟨b',3,none⟩ v3).rowIs b t n f :=
 zay (zay (zay (zay h hne _) hne _) hne _) hne _
theorem zap {a : World} (h : Below B a w) (hb : B ≤ b) (v0 v1 v2 v3 : Value) : Below B a ((((w.setCell ⟨b,0,none⟩ v0).setCell ⟨b,1,none⟩ v1).setCell ⟨b,2,none⟩ v2).setCell ⟨b,3,none⟩ v3) :=
 zas (zas (zas (zas h hb _) hb _) hb _) hb _
theorem below_put8 {a : World} (h : Below B a w) (hb : B ≤ b) (v0 v1 v2 v3 v4 v5 v6 v7 : Value) :
  Below B a ((((((((w.setCell ⟨b,0,none⟩ v0).setCell ⟨b,1,none⟩ v1).setCell ⟨b,2,none⟩ v2).setCell ⟨b,3,none⟩ v3).setCell ⟨b,4,none⟩ v4).setCell ⟨b,5,none⟩ v5).setCell ⟨b,6,none⟩ v6).setCell ⟨b,7,none⟩ v7) :=
 zas (zas (zas (zas (zas (zas (zas (zas h hb _) hb _) hb _) hb _) hb _) hb _) hb _) hb _
end
theorem row_step {X : Nat} {k : Nat} (hk : k < 4) : ∀ i,i < 4 → (if i = k then Value.int .u64 (wd X k) else Value.int .u64 (if i < k then wd X i else 0)) = Value.int .u64 (if i < k + 1 then wd X i else 0):=by
 intro i _
 by_cases h : i = k
 ·
  subst h; simp
 ·
  rw [if_neg h]; by_cases h2 : i < k
  ·
   rw [if_pos h2,if_pos (by omega)]
  ·
   rw [if_neg h2,if_neg (by omega)]
def Pre (w : World) (g t n : Nat) (f : Nat → Value) : Prop:=∃ c : Array Value,w.heap[g]? = some (.cells c t (0,0)) ∧ ∀ i,i < n → c[i]? = some (f i)
section
variable {w w' : World} {g t n B : Nat} {f h : Nat → Value}
theorem Pre.cell (p : Pre w g t n f) {i : Nat} (hi : i < n) : w.cell? ⟨g,i,none⟩ = some (f i):=by
 obtain ⟨c,hb,hc⟩:=p
 simp [World.cell?,hb,hc i hi]
theorem Pre.frozen (p : Pre w g t n f) (i : Nat) : w.frozen? ⟨g,i,none⟩ = false:=by
 obtain ⟨c,hb,_⟩:=p
 simp [World.frozen?,hb]
theorem Pre.lt (p : Pre w g t n f) : g < w.heap.size:=by
 obtain ⟨c,hb,_⟩:=p
 obtain ⟨hlt,_⟩:=Array.getElem?_eq_some_iff.1 hb
 exact hlt
theorem Pre.congr (p : Pre w g t n f) (e : ∀ i,i < n → f i = h i) : Pre w g t n h:=by
 obtain ⟨c,hb,hc⟩:=p
 exact ⟨c,hb,fun i hi => by rw [hc i hi,e i hi]⟩
theorem Pre.of_block (p : Pre w g t n f) (e : w'.heap[g]? = w.heap[g]?) : Pre w' g t n f:=by
 obtain ⟨c,hb,hc⟩:=p
 exact ⟨c,e.trans hb,hc⟩
theorem Pre.set (p : Pre w g t n f) (i : Nat) (v : Value) : Pre (w.setCell ⟨g,i,none⟩ v) g t n (fun j => if j = i then v else f j):=by
 obtain ⟨c,hb,hc⟩:=p
 refine ⟨c.setIfInBounds i v,?_,fun j hj => ?_⟩
 ·
  simp [World.setCell,Array.getElem?_modify,hb]
 ·
  rw [Array.getElem?_setIfInBounds]
  have hlt : j < c.size:=(Array.getElem?_eq_some_iff.1 (hc j hj)).1
  by_cases e : j = i
  ·
   subst e; simp [hlt]
  ·
   rw [if_neg (fun h => e h.symm)]
   show c[j]? = some (if j = i then v else f j)
   rw [if_neg e,hc j hj]
theorem Pre.far {b i : Nat} (p : Pre w g t n f) (hne : g ≠ b) (v : Value) : Pre (w.setCell ⟨b,i,none⟩ v) g t n f:=p.of_block (Below.heap_setCell _ _ _ _ hne)
theorem Pre.alloc (p : Pre w g t n f) (o : Obj) : Pre (w.alloc o) g t n f:=p.of_block (Below.heap_alloc _ _ _ p.lt)
theorem Pre.drew (p : Pre w g t n f) : Pre w.drew g t n f:=p
theorem Pre.drewN (p : Pre w g t n f) (k : Nat) : Pre (w.drewN k) g t n f:=p
theorem Pre.below (p : Pre w g t n f) (hb : Below B w w') (hlt : g < B) : Pre w' g t n f:=p.of_block (hb.block g hlt)
theorem Pre.of_row (r : w.rowIs g t n f) : Pre w g t n f:=by
 obtain ⟨c,hb,_,hc⟩:=r
 exact ⟨c,hb,hc⟩
theorem Pre.of_own {base m : Nat} {v : Value} (hown : w.ownsRow base t 1 v m ((List.range m).map f)) (hm : 0 < m) :
  ∃ g cap,v = .slice (some ⟨g,0,none⟩) m cap ∧ m ≤ cap ∧ base ≤ g ∧ Pre w g t m f:=by
 obtain ⟨_,⟨_,h0⟩ | ⟨g,cap,cur,rfl,hbg,hh,hnc,_,_,ht⟩⟩:=hown
 ·
  omega
 ·
  refine ⟨g,cap,rfl,hnc,hbg,cur,hh,fun i hi => ?_⟩
  have e : cur.toList[i]? = (cur.toList.take (m * 1))[i]?:=by rw [List.getElem?_take_of_lt (by omega)]
  have : cur[i]? = cur.toList[i]?:=by simp
  rw [this,e,ht]
  simp [hi]
theorem zhi {b : Nat} {row : Option Nat} (r : w.rowIs b t n f) (hg : w.grownBy w' row) (hne : some b ≠ row) : w'.rowIs b t n f:=r.of_block (hg.block b r.lt hne)
end
theorem quiet_more {P : Program} {fid : FuncId} {args : Array Value} {w : World} {a n : Nat} {v : Value} (h : Calls P fid args (w.drewN (a + n)) fun e w' => e = .returned v ∧ w' = w.drewN (a + n)) :
  Calls P fid args (w.drewN (a + n)) fun e w' => e = .returned v ∧ ∃ m,w' = w.drewN (a + m) :=
 h.mono fun _ _ ⟨he,hm⟩ => ⟨he,n,hm⟩
theorem zec {wz W w' : World} (hb : Below W.heap.size W w') (h : (∀ b o,b < wz.heap.size → W.cell? ⟨b,o,none⟩ = wz.cell? ⟨b,o,none⟩) ∧ Below wz.heap.size wz W) :
  (∀ b o,b < wz.heap.size → w'.cell? ⟨b,o,none⟩ = wz.cell? ⟨b,o,none⟩) ∧ Below wz.heap.size wz w' :=
 ⟨fun b o hlt => (hb.cell (p:=⟨b,o,none⟩) (Nat.lt_of_lt_of_le hlt h.2.size)).trans (h.1 b o hlt),h.2.trans (hb.mono h.2.size)⟩
theorem zdv (wz : World) : (∀ b o,b < wz.heap.size → wz.drew.cell? ⟨b,o,none⟩ = wz.cell? ⟨b,o,none⟩) ∧ Below wz.heap.size wz wz.drew :=
 ⟨fun _ _ _ => rfl,(Below.refl _ _).drew⟩
theorem zcb {P : Program} {fn : Func} {p s : Tmp} {ty : TypeId} (h : fn.results = #[.cell p ty,.tmp s]) (tmps : Array Value) (w : World) (g : Nat) (t : TypeId) (cs : Array Value) (fr : Nat × Nat) (n : Nat) (e : TypeId)
  (hp : tmps.getD p undef = .pointer (some ⟨g,0,none⟩)) (hg : w.heap[g]? = some (.cells cs t fr)) (hu : P.underlying ty = some (.array n e)) (hi : (P.info? ty).map (·.size) = some cs.size) :
  (results fn tmps).run P w = .ok (.tuple #[.agg cs,tmps.getD s undef]) w:=by
 have hp' : tmps[p]?.getD undef = .pointer (some ⟨g,0,none⟩):=by simpa using hp
 simp [results,h,hp',asAddr,run_loadVar_row w g t ty cs fr _ hg hu rfl hi]
def arrOf (n : Nat) (f : Nat → Value) : Array Value:=((List.range n).map f).toArray
theorem zaw (n : Nat) (f : Nat → Value) : (arrOf n f).size = n:=by simp [arrOf]
theorem zcy {n : Nat} (f : Nat → Value) {i : Nat} (hi : i < n) : (arrOf n f)[i]? = some (f i):=by simp [arrOf,hi]
theorem eq_arrOf {n : Nat} {f : Nat → Value} {cs : Array Value} (hn : cs.size = n) (h : ∀ i,i < n → cs[i]? = some (f i)) : cs = arrOf n f:=by
 apply Array.ext_getElem?
 intro i
 by_cases hi : i < n
 ·
  rw [h i hi,zcy f hi]
 ·
  rw [Array.getElem?_eq_none (by omega),Array.getElem?_eq_none (by rw [zaw]; omega)]
theorem zbr {n : Nat} {f : Nat → Value} (h : ∀ i,i < n → (f i).oneCell' = true) : (arrOf n f).all (·.oneCell') = true:=by
 rw [Array.all_eq_true_iff_forall_mem]
 intro v hv
 simp [arrOf] at hv
 obtain ⟨i,hi,rfl⟩:=hv
 exact h i hi
section
variable {w w' : World} {b t n B : Nat} {f : Nat → Value}
theorem blkOf (h : w.rowIs b t n f) : w.heap[b]? = some (.cells (arrOf n f) t (0,0)):=by
 obtain ⟨c,hb,hn,hc⟩:=h
 rw [hb,eq_arrOf hn hc]
theorem zbk (w : World) (n t : Nat) (f : Nat → Value) {g : Nat} (hg : g = w.heap.size) : (w.alloc (.cells (arrOf n f) t)).rowIs g t n f :=
 zag hg (zaw n f) fun _ hi => zcy f hi
theorem zgq {a : Array Value} (h : w.rowIs b t n f) (hn : a.size = n) {g : Nat → Value} (hg : ∀ i,i < n → a[i]? = some (g i)) : (w.setRow b a).rowIs b t n g:=by
 obtain ⟨c,hb,_,_⟩:=h
 exact ⟨a,setRow_heap w b c a t (0,0) hb,hn,hg⟩
theorem zca (w : World) {b b' : Nat} (a : Array Value) (hne : b ≠ b') : (w.setRow b' a).heap[b]? = w.heap[b]?:=by
 simp only [World.setRow,Array.getElem?_modify]
 rw [if_neg (by omega)]
end
theorem zem {P : Program} {t e n i : Nat} {cs : Array Value} {v : Value} (hu : P.underlying t = some (.array n e)) (hs : (P.info? e).map (·.size) = some 1)
  (hp : ∀ w,(part e cs i).run P w = .ok v w) (hi : i < n) (k : IntKind) (w : World) : (Instr.index t (.agg cs) (.int k (i : Int))).run P w = .ok v w:=by
 cases hq : P.info? e with
 | none => simp [hq] at hs
 | some inf =>
  have hz : inf.size = 1:=by simpa [hq] using hs
  simp [Instr.index,asIntOf,Sem.run_bind,run_underlying hu w,hi,sizeOf,typeInfo,hq,hz,hp,Result.andThen_ok]
theorem zax (n : Nat) {P : Program} {ops : Array Oper} {Q : Exit → Act → World → Prop} {rest : List Oper} {a : Act} {w : World} {op : Op} {ty : TypeId} {pos : String} {af : Array Edge} {g : Option (Tmp × Bool)}
  (h : wpList P ops Q (⟨some n,op,ty,pos,af,g⟩ :: rest) a w) : wpList P ops Q (⟨some n,op,ty,pos,af,g⟩ :: rest) a w:=h
theorem zbh {P : Program} {ops : Array Oper} {Q : Exit → Act → World → Prop} {rest : List Oper} {a : Act} {w : World} {op : Op} {ty : TypeId} {pos : String} {af : Array Edge} {g : Option (Tmp × Bool)}
  (h : wpList P ops Q (⟨none,op,ty,pos,af,g⟩ :: rest) a w) : wpList P ops Q (⟨none,op,ty,pos,af,g⟩ :: rest) a w:=h
theorem zbp {B b : Nat} {a w : World} (h : Below B a w) (hb : B ≤ b) (cs : Array Value) : Below B a (w.setRow b cs) :=
 ⟨h.os,h.tape,h.output,by simpa [World.setRow] using h.size,fun k hk => (zca w cs (by omega)).trans (h.block k hk)⟩
abbrev But (r : Nat) (w w' : World) : Prop:=w.grownBy w' (some r)
section
variable {w w' w'' : World} {r : Nat}
theorem But.refl (r : Nat) (w : World) : But r w w:=⟨rfl,rfl,rfl,Nat.le_refl _,fun _ _ _ => rfl⟩
theorem But.trans (h : But r w w') (k : But r w' w'') : But r w w'' :=
 ⟨k.os.trans h.os,k.tape.trans h.tape,k.output.trans h.output,Nat.le_trans h.size k.size,fun i hi hne => (k.block i (Nat.lt_of_lt_of_le hi h.size) hne).trans (h.block i hi hne)⟩
theorem But.below (h : But r w w') (k : Below w'.heap.size w' w'') : But r w w'' :=
 h.trans ⟨k.os,k.tape,k.output,k.size,fun i hi _ => k.block i hi⟩
theorem But.of_below (k : Below w.heap.size w w') : But r w w':=(But.refl r w).below k
theorem But.set (h : But r w w') (i : Nat) (v : Value) : But r w (w'.setCell ⟨r,i,none⟩ v) :=
 h.trans ⟨rfl,rfl,rfl,by simp [World.setCell],fun k _ hne => Below.heap_setCell _ _ _ _ (by simpa using hne)⟩
theorem But.alloc (h : But r w w') (o : Obj) : But r w (w'.alloc o):=h.below ((Below.refl _ _).alloc (Nat.le_refl _) o)
theorem But.drew (h : But r w w') : But r w w'.drew:=⟨h.os,h.tape,h.output,h.size,h.block⟩
theorem But.drewN (h : But r w w') (k : Nat) : But r w (w'.drewN k):=⟨h.os,h.tape,h.output,h.size,h.block⟩
theorem But.far {b i : Nat} (h : But r w w') (hb : w.heap.size ≤ b) (v : Value) : But r w (w'.setCell ⟨b,i,none⟩ v) :=
 ⟨h.os,h.tape,h.output,by simpa [World.setCell] using h.size,fun k hk hne => (Below.heap_setCell _ _ _ _ (by show k ≠ b; omega)).trans (h.block k hk hne)⟩
theorem But.new {B : Nat} (h : But r w w') (hr : B ≤ r) (hB : B ≤ w.heap.size) : Below B w w' :=
 ⟨h.os,h.tape,h.output,h.size,fun k hk => h.block k (by omega) (by simp; omega)⟩
theorem zez {b t n : Nat} {f : Nat → Value} (h : w.rowIs b t n f) (k : But r w w') (hne : b ≠ r) : w'.rowIs b t n f:=h.of_block (k.block b h.lt (by simpa using hne))
end
/-! ### steps of a region that draws its order -/
theorem at_slotR (n : Nat) {P : Program} {ops : Array Oper} {K : Act → World → Prop} {Q : Exit → Act → World → Prop} {E : Prop} {a : Act} {w : World} {op : Op} {ty : TypeId} {pos : String} {af : Array Edge} {g : Option (Tmp × Bool)}
  (h : if Region.wanted { dst:=some n,op:=op,type:=ty,pos:=pos,after:=af,guard:=g } (yielded ops a.tmps) = true then Oper.wp P { dst:=some n,op:=op,type:=ty,pos:=pos,after:=af,guard:=g } a w K Q else E) :
  if Region.wanted { dst:=some n,op:=op,type:=ty,pos:=pos,after:=af,guard:=g } (yielded ops a.tmps) = true then Oper.wp P { dst:=some n,op:=op,type:=ty,pos:=pos,after:=af,guard:=g } a w K Q else E:=h
theorem zfe {P : Program} {ops : Array Oper} {o : Oper} {a : Act} {w : World} {K : Act → World → Prop} {Q : Exit → Act → World → Prop} {E : Prop} (hgd : o.guard = none) (ty : TypeId) (x y : Operand) (ho : o.op = .store ty x y)
  (g : Nat) (cells : Array Value) (hx : a.eval x = .pointer (some ⟨g,0,none⟩)) (hy : a.eval y = .agg cells)
  (t : TypeId) (old : Array Value) (hg : w.heap[g]? = some (.cells old t (0,0))) (hi : (P.info? ty).map (·.size) = some cells.size)
  (hold : old.size = cells.size) (h1 : cells.all (·.oneCell') = true)
  (h : K (a.put o.dst undef) (w.setRow g cells)) : if Region.wanted o (yielded ops a.tmps) = true then Oper.wp P o a w K Q else E:=by
 rw [if_pos (by simp [Region.wanted,hgd])]
 exact wp_store_row ty x y ho g cells hx hy t old hg hi hold h1 h
/-! ### what such a region keeps: a range of cells,and all blocks but one -/
theorem zcz {W W' : World} {g : Nat} {L : List Value} (h : W.rangeAt g 0 L) (e : W'.heap[g]? = W.heap[g]?) : W'.rangeAt g 0 L:=fun j v hv => (World.cell?_of_block (a:=⟨g,0 + j,none⟩) e).trans (h j v hv)
theorem keepC {w5 W W' : World} {g gR : Nat} {L : List Value} (hb : Below W.heap.size W W') (hg : g < W.heap.size) (h : W.rangeAt g 0 L ∧ But gR w5 W) : W'.rangeAt g 0 L ∧ But gR w5 W' :=
 ⟨zcz h.1 (hb.block g hg),h.2.below hb⟩
theorem keepA {w5 W : World} {g gR : Nat} {L : List Value} {o : Obj} (hg : g < W.heap.size) (h : W.rangeAt g 0 L ∧ But gR w5 W) : (W.alloc o).rangeAt g 0 L ∧ But gR w5 (W.alloc o) :=
 ⟨zcz h.1 (Below.heap_alloc _ _ _ hg),h.2.alloc o⟩
theorem keepD {w5 W : World} {g gR : Nat} {L : List Value} (h : W.rangeAt g 0 L ∧ But gR w5 W) : W.drew.rangeAt g 0 L ∧ But gR w5 W.drew:=⟨h.1,h.2.drew⟩
theorem zdz {b t n : Nat} : ∀ (vs : List Value) (o : Nat) (w : World) (f : Nat → Value),w.rowIs b t n f → (w.setCells b o vs).rowIs b t n (fun j => if o ≤ j ∧ j < o + vs.length then vs.getD (j - o) undef else f j)
 | [],o,w,f,h => h.congr fun j _ => by rw [if_neg (by simp only [List.length_nil]; omega)]
 | v :: r,o,w,f,h => (zdz r (o + 1) _ _ (h.set o v)).congr fun j _ => by
  simp only [List.length_cons]
  by_cases h1 : j = o
  ·
   subst h1
   rw [if_neg (by omega),if_pos rfl,if_pos (by omega),Nat.sub_self]; rfl
  ·
   rw [if_neg h1]
   by_cases h2 : o + 1 ≤ j ∧ j < o + 1 + r.length
   ·
    rw [if_pos h2,if_pos (by omega),show j - o = (j - (o + 1)) + 1 by omega]; rfl
   ·
    rw [if_neg h2,if_neg (by omega)]
theorem ziw {w : World} {b t n : Nat} {f : Nat → Value} (h : w.rowIs b t n f) {F : Array Value} (hF : F.size = n) : (w.setCells b 0 F.toList).heap[b]? = some (.cells F t (0,0)):=by
 rw [blkOf (zdz F.toList 0 w f h)]
 congr 2
 refine (eq_arrOf hF fun i hi => ?_).symm
 have hi' : i < F.size:=by omega
 rw [if_pos ⟨by omega,by simp; omega⟩,Nat.sub_zero,List.getD_eq_getElem?_getD]
 simp [hi']
theorem But.setCells {r : Nat} {w0 : World} : ∀ (vs : List Value) (o : Nat) (w : World),But r w0 w → But r w0 (w.setCells r o vs)
 | [],_,_,h => h
 | v :: l,o,_,h => But.setCells l (o + 1) _ (h.set o v)
theorem keepS {w5 W : World} {g gR : Nat} {L cs : List Value} (hne : g ≠ gR) (h : W.rangeAt g 0 L ∧ But gR w5 W) : (W.setCells gR 0 cs).rangeAt g 0 L ∧ But gR w5 (W.setCells gR 0 cs) :=
 ⟨World.rangeAt_setCells_apart h.1 gR 0 cs (.inl hne),But.setCells cs 0 W h.2⟩
theorem there_row {w : World} {b t n m : Nat} {f : Nat → Value} (h : w.rowIs b t n f) (hm : m = n) : w.there b 0 m:=fun j hj => by
 rw [Nat.zero_add,h.cell (by omega)]
 exact ⟨rfl,h.frozen j⟩
/-! ### what a region keeps that stores into one block in the end -/
def Bt (r t n : Nat) (wz W : World) : Prop:=But r wz W ∧ ∃ f,W.rowIs r t n f
section
variable {r t n : Nat} {wz W W' : World}
theorem Bt.of {f : Nat → Value} (h : W.rowIs r t n f) (hb : But r wz W) : Bt r t n wz W:=⟨hb,f,h⟩
theorem Bt.call (h : Bt r t n wz W) (hb : Below W.heap.size W W') : Bt r t n wz W':=by
 obtain ⟨h1,f,h2⟩:=h
 exact ⟨h1.below hb,f,zab h2 hb h2.lt⟩
theorem Bt.alloc (h : Bt r t n wz W) (o : Obj) : Bt r t n wz (W.alloc o):=by
 obtain ⟨h1,f,h2⟩:=h
 exact ⟨h1.alloc o,f,h2.alloc o⟩
theorem Bt.drew (h : Bt r t n wz W) : Bt r t n wz W.drew:=⟨h.1.drew,h.2⟩
theorem Bt.set (h : Bt r t n wz W) (i : Nat) (v : Value) : Bt r t n wz (W.setCell ⟨r,i,none⟩ v):=by
 obtain ⟨h1,f,h2⟩:=h
 exact ⟨h1.set i v,_,h2.set i v⟩
theorem Bt.far (h : Bt r t n wz W) {b i : Nat} (hb : wz.heap.size ≤ b) (hne : r ≠ b) (v : Value) : Bt r t n wz (W.setCell ⟨b,i,none⟩ v):=by
 obtain ⟨h1,f,h2⟩:=h
 exact ⟨h1.far hb v,f,zay h2 hne v⟩
theorem Bt.setCells (h : Bt r t n wz W) (o : Nat) (vs : List Value) : Bt r t n wz (W.setCells r o vs):=by
 obtain ⟨h1,f,h2⟩:=h
 exact ⟨But.setCells vs o W h1,_,zdz vs o W f h2⟩
theorem Bt.setRow (h : Bt r t n wz W) {cs : Array Value} (hs : cs.size = n) : Bt r t n wz (W.setRow r cs):=by
 obtain ⟨h1,f,h2⟩:=h
 exact ⟨⟨h1.os,h1.tape,h1.output,by simpa [World.setRow] using h1.size,fun k hk hne' => (zca W cs (by simpa using hne')).trans (h1.block k hk hne')⟩,fun i => (cs[i]?).getD undef,zgq h2 hs fun i hi => by
  have : i < cs.size:=by omega
  simp [this]⟩
theorem Bt.cell (h : Bt r t n wz W) {b o : Nat} (hb : b < wz.heap.size) (hne : b ≠ r) : W.cell? ⟨b,o,none⟩ = wz.cell? ⟨b,o,none⟩:=World.cell?_of_block (a:=⟨b,o,none⟩) (h.1.block b hb (by simpa using hne))
theorem Bt.range (h : Bt r t n wz W) {b : Nat} {L : List Value} (hb : b < wz.heap.size) (hne : b ≠ r) (hl : wz.rangeAt b 0 L) : W.rangeAt b 0 L:=zcz hl (h.1.block b hb (by simpa using hne))
theorem Bt.there (h : Bt r t n wz W) {m : Nat} (hm : m = n) : W.there r 0 m:=by
 obtain ⟨_,f,h2⟩:=h
 exact there_row h2 hm
theorem Bt.frozen (h : Bt r t n wz W) (i : Nat) : W.frozen? ⟨r,i,none⟩ = false:=by
 obtain ⟨_,f,h2⟩:=h
 exact h2.frozen i
theorem Bt.below {B : Nat} (h : Bt r t n wz W) (hr : B ≤ r) (hB : B ≤ wz.heap.size) : Below B wz W:=h.1.new hr hB
end
def Ext (w w' : World) : Prop:=Below w.heap.size w w'
theorem Ext.refl (w : World) : Ext w w:=Below.refl _ _
theorem Ext.trans {a b c : World} (h : Ext a b) (k : Ext b c) : Ext a c:=Below.trans h (Below.mono k h.size)
theorem Ext.drew (w : World) : Ext w w.drew:=Below.drew (Below.refl _ _)
theorem Ext.alloc (w : World) (o : Obj) : Ext w (w.alloc o):=(Below.refl _ _).alloc (Nat.le_refl _) o
theorem Ext.block {a b : World} (h : Ext a b) {g : Nat} {o : Obj} (hg : a.heap[g]? = some o) : b.heap[g]? = some o:=by
 rw [Below.block h g (Array.getElem?_eq_some_iff.1 hg).1,hg]
theorem Ext.row {a b : World} {g t n : Nat} {f : Nat → Value} (h : a.rowIs g t n f) (k : Ext a b) : b.rowIs g t n f:=zab h k h.lt
section
variable {P : Program} {ops : Array Oper} {Q : Exit → Act → World → Prop} {md : Region.Mode}
def madeUpon (P : Program) (w : World) (v : Value) : Result Next → Prop
 | .ok (.value u) w' => u = v ∧ Ext w w'
 | .ok (.enter f args) w' => Calls P f args w' fun e w'' => e = .returned v ∧ Ext w w''
 | _ => False
def Made (P : Program) (o : Oper) (v : Value) (a : Act) (w : World) : Prop:=∀ W,Ext w W → madeUpon P W v ((execOp a.eval o).run P W)
theorem Made.ext {o : Oper} {v : Value} {a : Act} {w w' : World} (h : Made P o v a w) (k : Ext w w') : Made P o v a w':=fun W hW => h W (k.trans hW)
def YieldsE (P : Program) (ops : Array Oper) (o : Oper) (v : Value) (a : Act) (w : World) : Prop :=
 (Region.wanted o (yielded ops a.tmps) = true ∧ Made P o v a w) ∨ (Region.wanted o (yielded ops a.tmps) = false ∧ v = undef)
theorem YieldsE.of_same {o : Oper} {v : Value} {a a' : Act} {w w' : World} (hy : YieldsE P ops o v a w) (k : Ext w w') (he : execOp a'.eval o = execOp a.eval o)
  (hw : Region.wanted o (yielded ops a'.tmps) = Region.wanted o (yielded ops a.tmps)) : YieldsE P ops o v a' w':=by
 unfold YieldsE at *
 rw [hw]
 refine hy.imp (fun ⟨h1,h2⟩ => ⟨h1,?_⟩) id
 unfold Made at *
 rw [he]
 exact Made.ext h2 k
theorem Made.wp {o : Oper} {v : Value} {a : Act} {w W : World} (h : Made P o v a w) (k : Ext w W) {K : Act → World → Prop} (hK : ∀ W',Ext W W' → K (a.put o.dst v) W') : o.wp P a W K Q:=by
 have h1:=h W k
 unfold Oper.wp
 generalize (execOp a.eval o).run P W = r at *
 cases r with
 | ok n w' =>
  cases n <;> simp only [madeUpon] at h1 <;> simp only [Oper.upon]
  case value u => obtain ⟨rfl,e⟩:=h1; exact hK _ e
  case enter f args => exact h1.mono fun e w'' ⟨he,hw⟩ => by subst he; exact hK _ hw
 | halt x w' => simp only [madeUpon] at h1
theorem YieldsE.wpOp {i : Nat} {o : Oper} {v : Value} {a : Act} {w W : World} (hi : ops[i]? = some o) (hy : YieldsE P ops o v a w) (k : Ext w W)
  {K : Act → World → Prop} (h : ∀ W',Ext W W' → K (a.put o.dst v) W') : wpOp P ops Q i K a W:=by
 unfold Go.wpOp
 simp only [hi]
 rcases hy with ⟨hw,hv⟩ | ⟨hw,rfl⟩
 ·
  simp only [hw,if_true]; exact .inl (hv.wp k h)
 ·
  simp only [hw,Bool.false_eq_true,if_false]; exact h W (Ext.refl W)
theorem wpOp_putE {j : Nat} {oi oj : Oper} {v : Value} (hj : ops[j]? = some oj) (hap : oi.apart ops oj = true)
  (hsi : ∀ cs b,oi.op ≠ .select cs b) (hsj : ∀ cs b,oj.op ≠ .select cs b)
  (hQ : ∀ c a w,Q (.panic c) (a.put oi.dst v) w → Q (.panic c) a w) {K : Act → World → Prop} {a : Act} {w : World}
  (hK : ∀ a' w',K a' w' → Ext w w') (hy : YieldsE P ops oi v a w) (h : wpOp P ops Q j K (a.put oi.dst v) w) :
  wpOp P ops Q j (fun a' w' => YieldsE P ops oi v a' w' ∧ K (a'.put oi.dst v) w') a w:=by
 obtain ⟨h1,h2,h3⟩:=Oper.apart_spec hap
 have keep : ∀ (a' : Act) (u : Value) (w' : World),YieldsE P ops oi v a' w → Ext w w' → YieldsE P ops oi v (a'.put oj.dst u) w':=fun a' u w' hy k =>
  hy.of_same k (execOp_put oi hsi a' oj.dst u h3) (wanted_put oi a' oj.dst u h3)
 have keepD : ∀ d,YieldsE P ops oi v { a with defers:=d :: a.defers } w:=fun d => hy.of_same (Ext.refl w) rfl rfl
 unfold wpOp at *
 simp only [hj] at *
 rw [wanted_put oj a oi.dst v h1] at h
 split
 ·
  rename_i hw
  simp only [hw,if_true] at h
  rcases h with h | ⟨hasks,hlets⟩
  case inr => exact .inr ⟨by unfold Oper.asks at *; rw [execOp_put oj hsj a oi.dst v h1] at hasks; exact hasks,hlets⟩
  refine .inl ?_
  unfold Oper.wp at *
  rw [execOp_put oj hsj a oi.dst v h1] at h
  generalize (execOp a.eval oj).run P w = r at *
  have fin : ∀ u w',K ((a.put oi.dst v).put oj.dst u) w' → YieldsE P ops oi v (a.put oj.dst u) w' ∧ K ((a.put oj.dst u).put oi.dst v) w':=fun u w' hk =>
   ⟨keep a u w' hy (hK _ _ hk),by rw [← Act.put_comm a v u h2]; exact hk⟩
  cases r with
  | ok n w' =>
   cases n <;> simp only [Oper.upon] at h ⊢
   case value u => exact fin u w' h
   case skip => exact fin undef w' h
   case defer d =>
    refine ⟨keep _ _ w' (keepD d) (hK _ _ h),?_⟩
    rw [← Act.put_comm _ v undef h2,← Act.put_defers]
    exact h
   case enter f args =>
    refine Calls.mono h fun e w'' he => ?_
    cases e with
    | returned u => exact fin u w'' he
    | panicked c => exact hQ _ _ _ he
    | outgrown => exact he
   case row row args => exact Rows.mono h fun u w'' he => fin u w'' he
  | halt x w' =>
   cases x <;> simp only [Oper.upon] at h ⊢
   case panic u => exact hQ _ _ _ h
 ·
  rename_i hw
  simp only [hw] at h
  exact ⟨keep a undef w hy (Ext.refl w),by rw [← Act.put_comm a v undef h2]; exact h⟩
def wpG (P : Program) (md : Region.Mode) (ops : Array Oper) (Q : Exit → Act → World → Prop) (n : Nat) : Nat → Array Bool → Act → World → Prop
 | 0,listed,a,w => Region.ready md ops listed = [] ∧ ∀ W,Ext w W → Q .normal a W
 | fuel + 1,listed,a,w =>
  (Region.ready md ops listed = [] → ∀ W,Ext w W → Q .normal a W) ∧
  ∀ i ∈ Region.ready md ops listed,∀ W,Ext w W → wpOp P ops Q i (fun a' W' => (i < n → Ext W W') ∧ wpG P md ops Q n fuel (listed.setIfInBounds i true) a' W') a W
theorem wpG.ext {n : Nat} : ∀ {f : Nat} {listed : Array Bool} {a : Act} {w w' : World},wpG P md ops Q n f listed a w → Ext w w' → wpG P md ops Q n f listed a w'
 | 0,_,_,_,_,h,k => ⟨h.1,fun W hW => h.2 W (k.trans hW)⟩
 | _ + 1,_,_,_,_,h,k => ⟨fun h0 W hW => h.1 h0 W (k.trans hW),fun i hi W hW => h.2 i hi W (k.trans hW)⟩
theorem zci {n : Nat} : ∀ (f : Nat) (listed : Array Bool) (a : Act) (w : World),wpG P md ops Q n f listed a w → wpAny P md ops Q f listed a w
 | 0,_,_,w,h => ⟨h.1,h.2 w (Ext.refl w)⟩
 | f + 1,_,_,w,h => ⟨fun h0 => h.1 h0 w (Ext.refl w),fun i hi => wpOp_mono (fun a' w' hk => zci f _ a' w' hk.2) (h.2 i hi w (Ext.refl w))⟩
def Closed (md : Region.Mode) (ops : Array Oper) (listed : Array Bool) : Prop :=
 listed.size = ops.size ∧ ∀ j oj,ops[j]? = some oj → listed.getD j false = true → ∀ e ∈ oj.after,Region.binds md e = true → listed.getD e.on false = true
theorem Closed.set {i : Nat} {listed : Array Bool} (inv : Closed md ops listed) (hi : i ∈ Region.ready md ops listed) : Closed md ops (listed.setIfInBounds i true):=by
 obtain ⟨_,oi,hoi,hall⟩:=mem_ready.1 hi
 refine ⟨by simp [inv.1],fun j oj hj hl e he hb => ?_⟩
 by_cases hij : i = j
 ·
  subst hij
  have : oj = oi:=Option.some.inj (hj.symm.trans hoi)
  subst this
  exact getD_set_true (hall e he hb)
 ·
  rw [getD_set_ne false hij] at hl
  exact getD_set_true (inv.2 j oj hj hl e he hb)
def lateB (md : Region.Mode) (ops : Array Oper) (m n : Nat) : Bool :=
 ((List.range (m - 1)).all fun i => (List.range m).any fun j => decide (i < j) && Region.waitsFor md ops j i) &&
 ((List.range ops.size).all fun t => decide (t < n) || Region.waitsFor md ops t (m - 1))
theorem late_one {m n : Nat} {listed : Array Bool} (hB : lateB md ops m n = true) (inv : Closed md ops listed) :
  ∀ (d i : Nat),m - 1 - i = d → i < m → listed.getD i false = false → listed.getD (m - 1) false = false:=by
 intro d
 induction d using Nat.strongRecOn with
 | _ d ih =>
  intro i hd hi hun
  by_cases hl : i = m - 1
  ·
   subst hl; exact hun
  ·
   simp only [lateB,Bool.and_eq_true] at hB
   have h1:=List.all_eq_true.1 hB.1 i (List.mem_range.2 (by omega))
   obtain ⟨j,hj,hj2⟩:=List.any_eq_true.1 h1
   simp only [Bool.and_eq_true,decide_eq_true_eq] at hj2
   have hjm:=List.mem_range.1 hj
   obtain ⟨oj,hoj,e,he,hb,hon⟩:=Region.waitsFor_spec hj2.2
   refine ih (m - 1 - j) (by omega) j rfl hjm ?_
   cases h2 : listed.getD j false with
   | false => rfl
   | true =>
    have h3:=inv.2 j oj hoj h2 e he hb
    rw [hon,hun] at h3
    cases h3
theorem late_spec {m n i : Nat} {listed : Array Bool} (hB : lateB md ops m n = true) (inv : Closed md ops listed) (hi : i < m) (hun : listed.getD i false = false)
  {t : Nat} (ht : t ∈ Region.ready md ops listed) : t < n:=by
 have h0:=late_one hB inv _ i rfl hi hun
 simp only [lateB,Bool.and_eq_true] at hB
 obtain ⟨_,ot,hot,hall⟩:=mem_ready.1 ht
 have h1:=List.all_eq_true.1 hB.2 t (List.mem_range.2 (Array.getElem?_eq_some_iff.1 hot).1)
 simp only [Bool.or_eq_true,decide_eq_true_eq] at h1
 rcases h1 with h1 | h1
 ·
  exact h1
 ·
  obtain ⟨o',ho',e,he,hb,hon⟩:=Region.waitsFor_spec h1
  have : o' = ot:=Option.some.inj (ho'.symm.trans hot)
  subst this
  have h2:=hall e he hb
  rw [hon,h0] at h2
  cases h2
theorem G_first {i m n : Nat} {oi : Oper} {v : Value} (hi : ops[i]? = some oi) (hsel : ∀ (j : Nat) (o : Oper) cs b,ops[j]? = some o → o.op ≠ .select cs b)
  (hQ : ∀ c a w,Q (.panic c) (a.put oi.dst v) w → Q (.panic c) a w) (hB : lateB md ops m n = true) (him : i < m) :
  ∀ (fuel : Nat) (listed : Array Bool) (a : Act) (w : World),Closed md ops listed →
   (∀ j oj,ops[j]? = some oj → j ≠ i → listed.getD j true = false → (∀ e ∈ oj.after,Region.binds md e = true → e.on ≠ i) → oi.apart ops oj = true) →
   i ∈ Region.ready md ops listed → YieldsE P ops oi v a w →
   wpG P md ops Q n fuel (listed.setIfInBounds i true) (a.put oi.dst v) w → wpG P md ops Q n (fuel + 1) listed a w:=by
 intro fuel
 induction fuel with
 | zero =>
  intro listed a w _ _ hr hy H
  refine ⟨fun h => (by rw [h] at hr; cases hr),fun j hj W hW => ?_⟩
  by_cases hji : j = i
  ·
   subst hji; exact hy.wpOp hi hW fun W' hW' => ⟨fun _ => hW',H.ext (hW.trans hW')⟩
  ·
   have:=ready_mono hj hji
   rw [H.1] at this
   cases this
 | succ fuel ih =>
  intro listed a w inv hfree hr hy H
  refine ⟨fun h => (by rw [h] at hr; cases hr),fun j hj W hW => ?_⟩
  by_cases hji : j = i
  ·
   subst hji; exact hy.wpOp hi hW fun W' hW' => ⟨fun _ => hW',H.ext (hW.trans hW')⟩
  ·
   have hun:=getD_both (mem_ready.1 hr).1
   have hjn : j < n:=late_spec hB inv him hun hj
   have h1:=H.2 j (ready_mono hj hji) W hW
   obtain ⟨hjun,oj,hoj,hall⟩:=mem_ready.1 hj
   have hnot : ∀ e ∈ oj.after,Region.binds md e = true → e.on ≠ i:=fun e he hb heq => by
    have h2:=hall e he hb
    rw [heq,hun] at h2
    cases h2
   have h2:=wpOp_putE hoj (hfree j oj hoj hji hjun hnot) (fun cs b => hsel i oi cs b hi) (fun cs b => hsel j oj cs b hoj) hQ (fun a' w' hk => hk.1 hjn)
    (hy.of_same hW rfl rfl) h1
   have hfree' : ∀ k ok,ops[k]? = some ok → k ≠ i → (listed.setIfInBounds j true).getD k true = false →
     (∀ e ∈ ok.after,Region.binds md e = true → e.on ≠ i) → oi.apart ops ok = true:=fun k ok hk hki hunk hno => by
    refine hfree k ok hk hki ?_ hno
    by_cases hjk : j = k
    ·
     subst hjk; exact hjun
    ·
     rw [getD_set_ne true hjk] at hunk; exact hunk
   refine wpOp_mono (fun a' w' h3 => ⟨h3.2.1,ih (listed.setIfInBounds j true) a' w' (inv.set hj) hfree' (ready_mono hr (Ne.symm hji)) h3.1 ?_⟩) h2
   rw [Array.setIfInBounds_comm _ _ hji]
   exact h3.2.2
/-! ### the walk in the text's order -/
def wpMk (P : Program) (ops : Array Oper) (w : World) (R : Act → Prop) : List Oper → Act → Prop
 | [],a => R a
 | o :: rest,a => ∃ v,YieldsE P ops o v a w ∧ wpMk P ops w R rest (a.put o.dst v)
theorem zaa {w : World} {R : Act → Prop} {a : Act} {o : Oper} {rest : List Oper} (v : Value) (hg : o.guard = none) (hm : Made P o v a w) (h : wpMk P ops w R rest (a.put o.dst v)) : wpMk P ops w R (o :: rest) a :=
 ⟨v,.inl ⟨by simp [Region.wanted,hg],hm⟩,h⟩
theorem zat {w : World} {R : Act → Prop} {a : Act} {o : Oper} {rest : List Oper} (v : Value) (hg : Region.wanted o (yielded ops a.tmps) = true) (hm : Made P o v a w) (h : wpMk P ops w R rest (a.put o.dst v)) : wpMk P ops w R (o :: rest) a :=
 ⟨v,.inl ⟨hg,hm⟩,h⟩
theorem zch {w : World} {R : Act → Prop} {a : Act} {o : Oper} {rest : List Oper} (hg : Region.wanted o (yielded ops a.tmps) = false) (h : wpMk P ops w R rest (a.put o.dst undef)) : wpMk P ops w R (o :: rest) a :=
 ⟨undef,.inr ⟨hg,rfl⟩,h⟩
def lexTo (md : Region.Mode) (ops : Array Oper) : Nat → Nat → Array Bool → Bool
 | 0,_,_ => true
 | f + 1,k,listed => (Region.ready md ops listed).contains k && Region.free md ops listed k && lexTo md ops f (k + 1) (listed.setIfInBounds k true)
def marked : Nat → Nat → Array Bool → Array Bool
 | 0,_,listed => listed
 | f + 1,k,listed => marked f (k + 1) (listed.setIfInBounds k true)
theorem G_lex {m n g : Nat} (hsel : Region.noSelect ops = true) (hQ : ∀ (o : Oper) v c a w,Q (.panic c) (a.put o.dst v) w → Q (.panic c) a w) (hB : lateB md ops m n = true) {w : World} {R : Act → Prop} {L : Array Bool}
  (hR : ∀ a,R a → wpG P md ops Q n g L a w) : ∀ (l : List Oper) (k : Nat) (listed : Array Bool) (a : Act),(∀ j,j < l.length → l[j]? = ops[k + j]?) → k + l.length = m → Closed md ops listed →
  lexTo md ops l.length k listed = true → marked l.length k listed = L → wpMk P ops w R l a → wpG P md ops Q n (l.length + g) listed a w
 | [],k,listed,a,_,_,_,_,hL,h => by
  have hL' : listed = L:=hL
  subst hL'
  simpa using hR a h
 | o :: l,k,listed,a,hl,hk,inv,hX,hL,h => by
  have h0 : ops[k]? = some o:=by simpa using (hl 0 (by simp)).symm
  simp only [List.length_cons,lexTo,Bool.and_eq_true] at hX
  obtain ⟨⟨hr,hf⟩,hX'⟩:=hX
  have hkm : k < m:=by simp only [List.length_cons] at hk; omega
  have hr' : k ∈ Region.ready md ops listed:=by simpa using hr
  obtain ⟨v,hy,hK⟩:=h
  rw [List.length_cons,show l.length + 1 + g = (l.length + g) + 1 by omega]
  exact G_first h0 (Region.noSelect_spec hsel) (hQ o v) hB hkm _ listed a w inv (Region.free_spec h0 hf) hr' hy
   (G_lex hsel hQ hB hR l (k + 1) _ _ (fun j hj => by have:=hl (j + 1) (by simp; omega); simpa [Nat.add_assoc,Nat.add_comm 1 j] using this) (by simp only [List.length_cons] at hk; omega) (inv.set hr') hX' hL hK)
def madeB (l : List Oper) (m n : Nat) : Bool :=
 Region.noSelect l.toArray && decide (m ≤ l.length) && lateB .any l.toArray m n && lexTo .any l.toArray m 0 (Array.replicate l.length false)
def Rest (P : Program) (l : List Oper) (Q : Exit → Act → World → Prop) (m n : Nat) (a : Act) (w : World) : Prop :=
 wpG P .any l.toArray Q n (l.length - m) (marked m 0 (Array.replicate l.length false)) a w
theorem zgu {id m : Nat} (n : Nat) {a : Act} {w : World} {l : List Oper} (hm : P.follows .mixedOrders = true) (hB : madeB l m n = true)
  (hQ : ∀ (o : Oper) v c a w,Q (.panic c) (a.put o.dst v) w → Q (.panic c) a w)
  (h : wpMk P l.toArray w (fun a' => Rest P l Q m n a' w) (l.take m) a) : (Code.region id l.toArray true).wp P Q a w:=by
 simp only [madeB,Bool.and_eq_true,decide_eq_true_eq] at hB
 obtain ⟨⟨⟨hsel,hml⟩,hlate⟩,hlex⟩:=hB
 have htl : (l.take m).length = m:=by simp; omega
 have inv0 : Closed .any l.toArray (Array.replicate l.length false) :=
  ⟨by simp,fun j oj _ hl => (by rw [getD_replicate_false] at hl; cases hl)⟩
 have H:=G_lex (P:=P) (md:=.any) (Q:=Q) (g:=l.length - m) (w:=w) hsel hQ hlate (R:=fun a' => Rest P l Q m n a' w) (L:=marked m 0 (Array.replicate l.length false)) (fun a' h => h) (l.take m) 0 (Array.replicate l.length false) a (fun j hj => by
  have hj' : j < m:=by rw [htl] at hj; exact hj
  simp [hj']) (by simpa using htl) inv0 (by rw [htl]; exact hlex) (by rw [htl]) h
 rw [htl,show m + (l.length - m) = l.length by omega] at H
 refine wp_region_any hm (zci (n:=n) _ _ _ _ ?_)
 have:=wpG.ext H (Ext.drew w)
 simpa using this
/-! ### what stands behind them -/
theorem zbi {i : Nat} {o : Oper} {K : Act → World → Prop} {a : Act} {w : World} (ho : ops[i]? = some o) (hg : o.guard = none) (h : o.wp P a w K Q) : wpOp P ops Q i K a w :=
 wpOp_step ho fun _ hK => by rw [if_pos (by simp [Region.wanted,hg])]; exact Oper.wp_mono hK h
theorem zbz {o : Oper} {a : Act} {w : World} {K : Act → World → Prop} {ty : TypeId} {zs : Array Value} {t : TypeId} (ho : o.op = .alloc ty)
  (hz : ∀ W,(Instr.alloc ty true (.tuple #[])).run P W = .ok (.pointer (some ⟨W.heap.size,0,none⟩)) (W.alloc (.cells zs t)))
  (h : K (a.put o.dst (.pointer (some ⟨w.heap.size,0,none⟩))) (w.alloc (.cells zs t))) : o.wp P a w K Q:=by
 unfold Oper.wp execOp
 simp only [ho,Sem.run_bind,hz w,Result.andThen_ok,Sem.run_pure]
 exact h
theorem zbv (w : World) (o : Obj) : (w.alloc o).heap[w.heap.size]? = some o:=by
 show (w.heap.push o)[w.heap.size]? = _
 simp
theorem zcf {w W : World} {g : Nat} (h : Ext w W) (hg : w.heap.size ≤ g) (cs : Array Value) : Ext w (W.setRow g cs):=zbp h hg cs
theorem zdf {w W : World} {r : Nat} (h : But r w W) (cs : Array Value) : But r w (W.setRow r cs) :=
 ⟨h.os,h.tape,h.output,by simpa [World.setRow] using h.size,fun k hk hne => (zca W cs (by simpa using hne)).trans (h.block k hk hne)⟩
theorem but_ext {w W : World} {r : Nat} (h : Ext w W) : But r w W:=But.of_below h
theorem but_more {w W W' : World} {r : Nat} (h : But r w W) (k : Ext W W') : But r w W':=h.below k
abbrev ptrTo (g : Nat) : Value:=.pointer (some ⟨g,0,none⟩)
section
variable {l : List Oper} {m : Nat} {a : Act} {w : World} {ty t : TypeId} {zs cells old : Array Value} {d : Tmp} {y x : Operand} {r : Nat}
theorem zck (hlen : l.length = m) (hr : Region.ready .any l.toArray (marked m 0 (Array.replicate l.length false)) = []) (h : ∀ W,Ext w W → Q .normal a W) : Rest P l Q m m a w:=by
 unfold Rest
 rw [hlen,Nat.sub_self]
 rw [hlen] at hr
 exact ⟨hr,h⟩
theorem zeg (os : Oper) (hlen : l.length = m + 1) (hos : l.toArray[m]? = some os) (ho : os.op = .store ty x y) (hd : os.dst = none) (hg : os.guard = none)
  (hr : Region.ready .any l.toArray (marked m 0 (Array.replicate l.length false)) = [m]) (hr2 : Region.ready .any l.toArray (marked (m + 1) 0 (Array.replicate l.length false)) = [])
  (hmk : (marked m 0 (Array.replicate l.length false)).setIfInBounds m true = marked (m + 1) 0 (Array.replicate l.length false))
  (hx : a.eval x = ptrTo r) (hy : a.eval y = .agg cells) (hb : w.heap[r]? = some (.cells old t (0,0))) (hi : (P.info? ty).map (·.size) = some cells.size) (hold : old.size = cells.size) (h1 : cells.all (·.oneCell') = true)
  (h : ∀ W,But r w W → W.heap[r]? = some (.cells cells t (0,0)) → Q .normal a W) : Rest P l Q m m a w:=by
 unfold Rest
 rw [show l.length - m = 0 + 1 by omega]
 refine ⟨fun h0 => (by rw [hr] at h0; cases h0),fun i hi' W hW => ?_⟩
 rw [hr] at hi'
 obtain rfl : i = m:=by simpa using hi'
 refine zbi hos hg (wp_store_row ty x y ho r cells hx hy t old (hW.block hb) hi hold h1 ⟨fun h0 => absurd h0 (Nat.lt_irrefl _),?_⟩)
 rw [hmk]
 refine ⟨hr2,fun W2 hW2 => ?_⟩
 rw [hd]
 exact h W2 (but_more (zdf (but_ext hW) cells) hW2) (hW2.block (setRow_heap W r old cells t (0,0) (hW.block hb)))
theorem zcv (oa os : Oper) (hlen : l.length = m + 2) (hoa : l.toArray[m]? = some oa) (hos : l.toArray[m + 1]? = some os) (hoa2 : oa.op = .alloc ty) (ho : os.op = .store ty (.tmp d) y) (hda : oa.dst = some d) (hd : os.dst = none) (hga : oa.guard = none) (hg : os.guard = none)
  (hr : Region.ready .any l.toArray (marked m 0 (Array.replicate l.length false)) = [m]) (hr1 : Region.ready .any l.toArray (marked (m + 1) 0 (Array.replicate l.length false)) = [m + 1]) (hr2 : Region.ready .any l.toArray (marked (m + 2) 0 (Array.replicate l.length false)) = [])
  (hmk : (marked m 0 (Array.replicate l.length false)).setIfInBounds m true = marked (m + 1) 0 (Array.replicate l.length false))
  (hmk1 : (marked (m + 1) 0 (Array.replicate l.length false)).setIfInBounds (m + 1) true = marked (m + 2) 0 (Array.replicate l.length false))
  (hz : ∀ W,(Instr.alloc ty true (.tuple #[])).run P W = .ok (ptrTo W.heap.size) (W.alloc (.cells zs t)))
  (hx : ∀ g,(a.put (some d) (ptrTo g)).eval (.tmp d) = ptrTo g) (hy : ∀ g,(a.put (some d) (ptrTo g)).eval y = .agg cells) (hi : (P.info? ty).map (·.size) = some cells.size) (hold : zs.size = cells.size) (h1 : cells.all (·.oneCell') = true)
  (h : ∀ g W,w.heap.size ≤ g → W.heap[g]? = some (.cells cells t (0,0)) → Ext w W → Q .normal (a.put (some d) (ptrTo g)) W) : Rest P l Q m (m + 1) a w:=by
 unfold Rest
 rw [show l.length - m = 0 + 1 + 1 by omega]
 refine ⟨fun h0 => (by rw [hr] at h0; cases h0),fun i hi' W hW => ?_⟩
 rw [hr] at hi'
 obtain rfl : i = m:=by simpa using hi'
 refine zbi hoa hga (zbz hoa2 hz ⟨fun _ => Ext.alloc _ _,?_⟩)
 rw [hmk,hda]
 refine ⟨fun h0 => (by rw [hr1] at h0; cases h0),fun j hj' W1 hW1 => ?_⟩
 rw [hr1] at hj'
 obtain rfl : j = i + 1:=by simpa using hj'
 refine zbi hos hg (wp_store_row ty _ y ho W.heap.size cells (hx _) (hy _) t zs (hW1.block (zbv _ _)) hi hold h1 ⟨fun h0 => absurd h0 (Nat.lt_irrefl _),?_⟩)
 rw [hmk1]
 refine ⟨hr2,fun W2 hW2 => ?_⟩
 rw [hd]
 exact h W.heap.size W2 (Below.size hW) (hW2.block (setRow_heap W1 _ zs cells t (0,0) (hW1.block (zbv _ _)))) ((zcf ((hW.trans (Ext.alloc _ _)).trans hW1) (Below.size hW) cells).trans hW2)
theorem rest_two {ya yb : Operand} {da db : Tmp} {ca cb : Array Value} (oa ob sa sb : Oper) (hlen : l.length = m + 4) (hoa : l.toArray[m]? = some oa) (hob : l.toArray[m + 1]? = some ob) (hsa : l.toArray[m + 2]? = some sa) (hsb : l.toArray[m + 3]? = some sb)
  (hoa2 : oa.op = .alloc ty) (hob2 : ob.op = .alloc ty) (hsa2 : sa.op = .store ty (.tmp da) ya) (hsb2 : sb.op = .store ty (.tmp db) yb) (hda : oa.dst = some da) (hdb : ob.dst = some db) (hd : sa.dst = none) (hd' : sb.dst = none)
  (hga : oa.guard = none) (hgb : ob.guard = none) (hg : sa.guard = none) (hg' : sb.guard = none) (hne : da ≠ db)
  (hr : Region.ready .any l.toArray (marked m 0 (Array.replicate l.length false)) = [m,m + 1])
  (hra : Region.ready .any l.toArray ((marked m 0 (Array.replicate l.length false)).setIfInBounds m true) = [m + 1])
  (hrb : Region.ready .any l.toArray ((marked m 0 (Array.replicate l.length false)).setIfInBounds (m + 1) true) = [m])
  (hr2 : Region.ready .any l.toArray (marked (m + 2) 0 (Array.replicate l.length false)) = [m + 2]) (hr3 : Region.ready .any l.toArray (marked (m + 3) 0 (Array.replicate l.length false)) = [m + 3]) (hr4 : Region.ready .any l.toArray (marked (m + 4) 0 (Array.replicate l.length false)) = [])
  (hma : ((marked m 0 (Array.replicate l.length false)).setIfInBounds m true).setIfInBounds (m + 1) true = marked (m + 2) 0 (Array.replicate l.length false))
  (hm2 : (marked (m + 2) 0 (Array.replicate l.length false)).setIfInBounds (m + 2) true = marked (m + 3) 0 (Array.replicate l.length false))
  (hm3 : (marked (m + 3) 0 (Array.replicate l.length false)).setIfInBounds (m + 3) true = marked (m + 4) 0 (Array.replicate l.length false))
  (hz : ∀ W,(Instr.alloc ty true (.tuple #[])).run P W = .ok (ptrTo W.heap.size) (W.alloc (.cells zs t)))
  (hxa : ∀ g g',((a.put (some da) (ptrTo g)).put (some db) (ptrTo g')).eval (.tmp da) = ptrTo g) (hxb : ∀ g g',((a.put (some da) (ptrTo g)).put (some db) (ptrTo g')).eval (.tmp db) = ptrTo g')
  (hya : ∀ g g',((a.put (some da) (ptrTo g)).put (some db) (ptrTo g')).eval ya = .agg ca) (hyb : ∀ g g',((a.put (some da) (ptrTo g)).put (some db) (ptrTo g')).eval yb = .agg cb)
  (hia : (P.info? ty).map (·.size) = some ca.size) (hib : (P.info? ty).map (·.size) = some cb.size) (holda : zs.size = ca.size) (holdb : zs.size = cb.size) (h1a : ca.all (·.oneCell') = true) (h1b : cb.all (·.oneCell') = true)
  (h : ∀ g g' W,w.heap.size ≤ g → w.heap.size ≤ g' → W.heap[g]? = some (.cells ca t (0,0)) → W.heap[g']? = some (.cells cb t (0,0)) → Ext w W → Q .normal ((a.put (some da) (ptrTo g)).put (some db) (ptrTo g')) W) : Rest P l Q m (m + 2) a w:=by
 -- what stands behind both variables
 have fin : ∀ g g' W,w.heap.size ≤ g → w.heap.size ≤ g' → g ≠ g' → W.heap[g]? = some (.cells zs t (0,0)) → W.heap[g']? = some (.cells zs t (0,0)) → Ext w W →
   wpG P .any l.toArray Q (m + 2) (0 + 1 + 1) (marked (m + 2) 0 (Array.replicate l.length false)) ((a.put (some da) (ptrTo g)).put (some db) (ptrTo g')) W:=by
  intro g g' W hge hge' hgg hbg hbg' hW
  refine ⟨fun h0 => (by rw [hr2] at h0; cases h0),fun i hi' W1 hW1 => ?_⟩
  rw [hr2] at hi'
  obtain rfl : i = m + 2:=by simpa using hi'
  refine zbi hsa hg (wp_store_row ty _ ya hsa2 g ca (hxa g g') (hya g g') t zs (hW1.block hbg) hia holda h1a ⟨fun h0 => absurd h0 (Nat.lt_irrefl _),?_⟩)
  rw [hm2,hd]
  refine ⟨fun h0 => (by rw [hr3] at h0; cases h0),fun j hj' W2 hW2 => ?_⟩
  rw [hr3] at hj'
  obtain rfl : j = m + 3:=by simpa using hj'
  have hb1 : (W1.setRow g ca).heap[g']? = some (.cells zs t (0,0)):=by rw [zca W1 ca (fun e => hgg e.symm)]; exact hW1.block hbg'
  have hb2 : (W1.setRow g ca).heap[g]? = some (.cells ca t (0,0)):=setRow_heap W1 g zs ca t (0,0) (hW1.block hbg)
  refine zbi hsb hg' (wp_store_row ty _ yb hsb2 g' cb (hxb g g') (hyb g g') t zs (hW2.block hb1) hib holdb h1b ⟨fun h0 => (by omega),?_⟩)
  rw [hm3,hd']
  refine ⟨hr4,fun W3 hW3 => ?_⟩
  refine h g g' W3 hge hge' (hW3.block ?_) (hW3.block (setRow_heap W2 g' zs cb t (0,0) (hW2.block hb1))) ?_
  ·
   rw [zca W2 cb hgg]; exact hW2.block hb2
  ·
   exact (zcf ((zcf (hW.trans hW1) hge ca).trans hW2) hge' cb).trans hW3
 unfold Rest
 rw [show l.length - m = 0 + 1 + 1 + 1 + 1 by omega]
 refine ⟨fun h0 => (by rw [hr] at h0; cases h0),fun i hi' W hW => ?_⟩
 rw [hr] at hi'
 have hi2 : i = m ∨ i = m + 1:=by simpa using hi'
 rcases hi2 with rfl | rfl
 ·
  refine zbi hoa hga (zbz hoa2 hz ⟨fun _ => Ext.alloc _ _,?_⟩)
  rw [hda]
  refine ⟨fun h0 => (by rw [hra] at h0; cases h0),fun j hj' W1 hW1 => ?_⟩
  rw [hra] at hj'
  obtain rfl : j = i + 1:=by simpa using hj'
  refine zbi hob hgb (zbz hob2 hz ⟨fun _ => Ext.alloc _ _,?_⟩)
  rw [hdb,hma]
  have h2 : W.heap.size < W1.heap.size:=by have:=Below.size hW1; simp at this; omega
  exact fin _ _ _ (Below.size hW) (by have:=Below.size hW; omega) (by omega) ((hW1.trans (Ext.alloc _ _)).block (zbv _ _)) (zbv _ _) ((hW.trans (Ext.alloc _ _)).trans (hW1.trans (Ext.alloc _ _)))
 ·
  refine zbi hob hgb (zbz hob2 hz ⟨fun _ => Ext.alloc _ _,?_⟩)
  rw [hdb]
  refine ⟨fun h0 => (by rw [hrb] at h0; cases h0),fun j hj' W1 hW1 => ?_⟩
  rw [hrb] at hj'
  obtain rfl : j = m:=by simpa using hj'
  refine zbi hoa hga (zbz hoa2 hz ⟨fun _ => Ext.alloc _ _,?_⟩)
  rw [hda,Array.setIfInBounds_comm _ _ (by omega),hma,Act.put_comm a _ _ (fun d h0 h1 => hne (by cases h0; cases h1; rfl))]
  have h2 : W.heap.size < W1.heap.size:=by have:=Below.size hW1; simp at this; omega
  exact fin _ _ _ (by have:=Below.size hW; omega) (Below.size hW) (by omega) (zbv _ _) ((hW1.trans (Ext.alloc _ _)).block (zbv _ _)) ((hW.trans (Ext.alloc _ _)).trans (hW1.trans (Ext.alloc _ _)))
end
/-! ### a region in its own order -/
def PRest (P : Program) (l : List Oper) (Q : Exit → Act → World → Prop) (m : Nat) (a : Act) (w : World) : Prop:=∀ W,Ext w W → wpList P l.toArray Q (l.drop m) a W
theorem plain_lex {w : World} {R : Act → Prop} {rest : List Oper} (hR : ∀ a,R a → ∀ W,Ext w W → wpList P ops Q rest a W) : ∀ (l : List Oper) (a : Act),wpMk P ops w R l a → ∀ W,Ext w W → wpList P ops Q (l ++ rest) a W
 | [],a,h,W,hW => hR a h W hW
 | o :: l,a,⟨v,hy,hK⟩,W,hW => wpList_step fun K hK' => by
  rcases hy with ⟨hw,hv⟩ | ⟨hw,rfl⟩
  ·
   rw [if_pos hw]
   exact hv.wp hW fun W' hW' => hK' _ _ (plain_lex hR l _ hK W' (hW.trans hW'))
  ·
   rw [if_neg (by simp [hw])]
   exact hK' _ _ (plain_lex hR l _ hK W hW)
theorem zgs {id : Nat} (m : Nat) {a : Act} {w : World} {l : List Oper} (h : wpMk P l.toArray w (fun a' => PRest P l Q m a' w) (l.take m) a) : (Code.region id l.toArray false).wp P Q a w:=by
 refine wp_region_lit ?_
 have:=plain_lex (P:=P) (ops:=l.toArray) (Q:=Q) (w:=w) (rest:=l.drop m) (R:=fun a' => PRest P l Q m a' w) (fun a' h => h) (l.take m) a h w (Ext.refl w)
 rwa [List.take_append_drop] at this
section
variable {l : List Oper} {m : Nat} {a : Act} {w : World} {ty t : TypeId} {zs cells old : Array Value} {d : Tmp} {y x : Operand} {r : Nat}
theorem zar (hlen : l.drop m = []) (h : ∀ W,Ext w W → Q .normal a W) : PRest P l Q m a w:=fun W hW => by
 rw [hlen]
 exact wpList_nil (h W hW)
theorem zbs (os : Oper) (hl : l.drop m = [os]) (ho : os.op = .store ty x y) (hd : os.dst = none) (hg : os.guard = none)
  (hx : a.eval x = ptrTo r) (hy : a.eval y = .agg cells) (hb : w.heap[r]? = some (.cells old t (0,0))) (hi : (P.info? ty).map (·.size) = some cells.size) (hold : old.size = cells.size) (h1 : cells.all (·.oneCell') = true)
  (h : ∀ W,But r w W → W.heap[r]? = some (.cells cells t (0,0)) → Q .normal a W) : PRest P l Q m a w:=fun W hW => by
 rw [hl]
 refine wpList_plain hg fun K hK => wp_store_row ty x y ho r cells hx hy t old (hW.block hb) hi hold h1 (hK _ _ (wpList_nil ?_))
 rw [hd]
 exact h _ (zdf (but_ext hW) cells) (setRow_heap W r old cells t (0,0) (hW.block hb))
theorem wpl_var {rest : List Oper} (oa os : Oper) (hoa2 : oa.op = .alloc ty) (ho : os.op = .store ty (.tmp d) y) (hda : oa.dst = some d) (hd : os.dst = none) (hga : oa.guard = none) (hg : os.guard = none)
  (hz : ∀ W,(Instr.alloc ty true (.tuple #[])).run P W = .ok (ptrTo W.heap.size) (W.alloc (.cells zs t)))
  (hx : ∀ g,(a.put (some d) (ptrTo g)).eval (.tmp d) = ptrTo g) (hy : ∀ g,(a.put (some d) (ptrTo g)).eval y = .agg cells) (hi : (P.info? ty).map (·.size) = some cells.size) (hold : zs.size = cells.size) (h1 : cells.all (·.oneCell') = true)
  (h : ∀ g W,w.heap.size ≤ g → W.heap[g]? = some (.cells cells t (0,0)) → Ext w W → wpList P ops Q rest (a.put (some d) (ptrTo g)) W) : wpList P ops Q (oa :: os :: rest) a w:=by
 refine wpList_plain hga fun K hK => zbz hoa2 hz (hK _ _ ?_)
 refine wpList_plain hg fun K hK => ?_
 rw [hda]
 refine wp_store_row ty _ y ho w.heap.size cells (hx _) (hy _) t zs (zbv _ _) hi hold h1 (hK _ _ ?_)
 rw [hd]
 exact h w.heap.size _ (Nat.le_refl _) (setRow_heap _ _ zs cells t (0,0) (zbv _ _)) (zcf (Ext.alloc _ _) (Nat.le_refl _) cells)
theorem zcc {rest : List Oper} (oa os : Oper) (hl : l.drop m = oa :: os :: rest) (hoa2 : oa.op = .alloc ty) (ho : os.op = .store ty (.tmp d) y) (hda : oa.dst = some d) (hd : os.dst = none) (hga : oa.guard = none) (hg : os.guard = none)
  (hz : ∀ W,(Instr.alloc ty true (.tuple #[])).run P W = .ok (ptrTo W.heap.size) (W.alloc (.cells zs t)))
  (hx : ∀ g,(a.put (some d) (ptrTo g)).eval (.tmp d) = ptrTo g) (hy : ∀ g,(a.put (some d) (ptrTo g)).eval y = .agg cells) (hi : (P.info? ty).map (·.size) = some cells.size) (hold : zs.size = cells.size) (h1 : cells.all (·.oneCell') = true)
  (h : ∀ g W,w.heap.size ≤ g → W.heap[g]? = some (.cells cells t (0,0)) → Ext w W → wpList P l.toArray Q rest (a.put (some d) (ptrTo g)) W) : PRest P l Q m a w:=fun W hW => by
 rw [hl]
 exact wpl_var oa os hoa2 ho hda hd hga hg hz hx hy hi hold h1 fun g W' h1 h2 h3 => h g W' (Nat.le_trans (Below.size hW) h1) h2 (hW.trans h3)
theorem wpl_store {rest : List Oper} (os : Oper) (ho : os.op = .store ty x y) (hd : os.dst = none) (hg : os.guard = none)
  (hx : a.eval x = ptrTo r) (hy : a.eval y = .agg cells) (hb : w.heap[r]? = some (.cells old t (0,0))) (hi : (P.info? ty).map (·.size) = some cells.size) (hold : old.size = cells.size) (h1 : cells.all (·.oneCell') = true)
  (h : ∀ W,But r w W → W.heap[r]? = some (.cells cells t (0,0)) → wpList P ops Q rest a W) : wpList P ops Q (os :: rest) a w:=by
 refine wpList_plain hg fun K hK => wp_store_row ty x y ho r cells hx hy t old hb hi hold h1 (hK _ _ ?_)
 rw [hd]
 exact h _ (zdf (But.refl _ _) cells) (setRow_heap w r old cells t (0,0) hb)
theorem zdd {rest : List Oper} (os : Oper) (hl : l.drop m = os :: rest) (ho : os.op = .store ty x y) (hd : os.dst = none) (hg : os.guard = none)
  (hx : a.eval x = ptrTo r) (hy : a.eval y = .agg cells) (hb : w.heap[r]? = some (.cells old t (0,0))) (hi : (P.info? ty).map (·.size) = some cells.size) (hold : old.size = cells.size) (h1 : cells.all (·.oneCell') = true)
  (h : ∀ W,But r w W → W.heap[r]? = some (.cells cells t (0,0)) → wpList P l.toArray Q rest a W) : PRest P l Q m a w:=fun W hW => by
 rw [hl]
 exact wpl_store os ho hd hg hx hy (hW.block hb) hi hold h1 fun W' h1 h2 => h W' ((but_ext hW).trans h1) h2
theorem zcm (oa os : Oper) (hl : l.drop m = [oa,os]) (hoa2 : oa.op = .alloc ty) (ho : os.op = .store ty (.tmp d) y) (hda : oa.dst = some d) (hd : os.dst = none) (hga : oa.guard = none) (hg : os.guard = none)
  (hz : ∀ W,(Instr.alloc ty true (.tuple #[])).run P W = .ok (ptrTo W.heap.size) (W.alloc (.cells zs t)))
  (hx : ∀ g,(a.put (some d) (ptrTo g)).eval (.tmp d) = ptrTo g) (hy : ∀ g,(a.put (some d) (ptrTo g)).eval y = .agg cells) (hi : (P.info? ty).map (·.size) = some cells.size) (hold : zs.size = cells.size) (h1 : cells.all (·.oneCell') = true)
  (h : ∀ g W,w.heap.size ≤ g → W.heap[g]? = some (.cells cells t (0,0)) → Ext w W → Q .normal (a.put (some d) (ptrTo g)) W) : PRest P l Q m a w:=fun W hW => by
 rw [hl]
 refine wpList_plain hga fun K hK => zbz hoa2 hz (hK _ _ ?_)
 refine wpList_plain hg fun K hK => ?_
 rw [hda]
 refine wp_store_row ty _ y ho W.heap.size cells (hx _) (hy _) t zs (zbv _ _) hi hold h1 (hK _ _ (wpList_nil ?_))
 rw [hd]
 exact h W.heap.size _ (Below.size hW) (setRow_heap _ _ zs cells t (0,0) (zbv _ _)) (zcf (hW.trans (Ext.alloc _ _)) (Below.size hW) cells)
end
theorem wpl_fun {k : FuncId} {xs : List Operand} {ts : Array TypeId} {args : List Value} {rest : List Oper} {o : Oper} {a : Act} {w : World} {R : Value → World → Prop} (hg : o.guard = none)
  (ho : o.op = .call { callee:=.value (.func k),args:=xs.toArray,argTypes:=ts }) (hx : xs.map a.eval = args)
  (he : ∀ W,(callFunc k args.toArray).run P W = .ok (.enter k args.toArray) W) (hc : Calls P k args.toArray w fun e W' => ∃ v,e = .returned v ∧ R v W') (h : ∀ v W',R v W' → wpList P ops Q rest (a.put o.dst v) W') : wpList P ops Q (o :: rest) a w:=by
 refine wpList_plain hg fun K hK => ?_
 have h1 : execOp a.eval o = callFunc k (#[] ++ xs.toArray.map a.eval ++ #[]):=by
  cases o
  subst ho
  rfl
 have h2 : (execOp a.eval o).run P w = .ok (.enter k args.toArray) w:=by
  rw [h1,List.map_toArray,hx]
  simpa using he w
 unfold Oper.wp
 rw [h2,Oper.upon_enter]
 refine hc.mono ?_
 rintro e W' ⟨v,rfl,hR⟩
 exact hK _ _ (h v W' hR)
theorem zbc {fn : Func} {p s : Tmp} {ty : TypeId} (h : fn.results = #[.cell p ty,.tmp s]) (tmps : Array Value) (w : World) (g : Nat) (t : TypeId) (cs : Array Value) (fr : Nat × Nat) (d : TypeDesc)
  (hp : tmps.getD p undef = .pointer (some ⟨g,0,none⟩)) (hg : w.heap[g]? = some (.cells cs t fr)) (hu : P.underlying ty = some d) (hd : d.isRow = true) (hi : (P.info? ty).map (·.size) = some cs.size) :
  (results fn tmps).run P w = .ok (.tuple #[.agg cs,tmps.getD s undef]) w:=by
 have hp' : tmps[p]?.getD undef = .pointer (some ⟨g,0,none⟩):=by simpa using hp
 have hl : (loadVar ty ⟨g,0,none⟩).run P w = .ok (.agg cs) w:=run_loadVar_mid w g 0 ty cs.toList d (fun j v hv => by rw [cell_of_row w g (0 + j) cs t fr hg,Nat.zero_add]; simpa using hv) hu hd (by simpa using hi)
 simp [results,h,hp',asAddr,hl]
/-! ### the walk's frame,kept from the rest -/
theorem zim {w : World} {R R' : Act → Prop} (h : ∀ a,R a → R' a) : ∀ {l : List Oper} {a : Act},wpMk P ops w R l a → wpMk P ops w R' l a
 | [],_,hh => h _ hh
 | _ :: _,_,⟨v,hy,hK⟩ => ⟨v,hy,zim h hK⟩
theorem mk_ops {w : World} {R : Act → Prop} : ∀ {l : List Oper} {a : Act},(l.all fun o => o.guard.isNone) = true → wpMk P #[] w R l a → wpMk P ops w R l a
 | [],_,_,hh => hh
 | o :: l,a,hg,⟨v,hy,hK⟩ => by
  simp only [List.all_cons,Bool.and_eq_true,Option.isNone_iff_eq_none] at hg
  refine ⟨v,?_,mk_ops hg.2 hK⟩
  have h1 : ∀ X : Array Oper,Region.wanted o (yielded X a.tmps) = true:=fun X => by simp [Region.wanted,hg.1]
  rcases hy with ⟨_,hm⟩ | ⟨hw,_⟩
  ·
   exact .inl ⟨h1 _,hm⟩
  ·
   rw [h1] at hw; cases hw
theorem zbw {id m : Nat} {A : Act} (n : Nat) {a : Act} {w : World} {l : List Oper} (hm : P.follows .mixedOrders = true) (hB : madeB l m n = true) (hg : ((l.take m).all fun o => o.guard.isNone) = true)
  (h : wpMk P #[] w (fun a' => a' = A) (l.take m) a) (h2 : Rest P l (NoPanic Q) m n A w) : (Code.region id l.toArray true).wp P Q a w :=
 wp_region_noPanic (zgu n hm hB (fun _ _ _ _ _ h => h) (mk_ops hg (zim (fun a' e => by subst e; exact h2) h)))
theorem zan {id m : Nat} {A : Act} {a : Act} {w : World} {l : List Oper} (hg : ((l.take m).all fun o => o.guard.isNone) = true)
  (h : wpMk P #[] w (fun a' => a' = A) (l.take m) a) (h2 : PRest P l Q m A w) : (Code.region id l.toArray false).wp P Q a w :=
 zgs m (mk_ops hg (zim (fun a' e => by subst e; exact h2) h))
theorem zdb {id m : Nat} {A : Act} (n : Nat) {a : Act} {w : World} {l : List Oper} (hm : P.follows .mixedOrders = true) (hB : madeB l m n = true)
  (h : wpMk P l.toArray w (fun a' => a' = A) (l.take m) a) (h2 : Rest P l (NoPanic Q) m n A w) : (Code.region id l.toArray true).wp P Q a w :=
 wp_region_noPanic (zgu n hm hB (fun _ _ _ _ _ h => h) (zim (fun a' e => by subst e; exact h2) h))
theorem zdt {id m : Nat} {A : Act} {a : Act} {w : World} {l : List Oper}
  (h : wpMk P l.toArray w (fun a' => a' = A) (l.take m) a) (h2 : PRest P l Q m A w) : (Code.region id l.toArray false).wp P Q a w :=
 zgs m (zim (fun a' e => by subst e; exact h2) h)
theorem zak {w : World} {a : Act} : wpMk P ops w (fun a' => a' = a) [] a:=rfl
/-! ### operations -/
section
variable {o : Oper} {a : Act} {w : World}
theorem zcs {v : Value} (h : ∀ W,Ext w W → (execOp a.eval o).run P W = .ok (.value v) W) : Made P o v a w:=fun W hW => by
 rw [h W hW]
 exact ⟨rfl,Ext.refl W⟩
theorem made_call {v : Value} {f : FuncId} {args : Array Value} (h : ∀ W,(execOp a.eval o).run P W = .ok (.enter f args) W) (hc : ∀ W,Ext w W → Calls P f args W fun e W' => e = .returned v ∧ Ext W W') : Made P o v a w:=fun W hW => by
 rw [h W]
 exact hc W hW
theorem zad {ty : TypeId} {x : Operand} {g off t : Nat} {C : Array Value} {cs : List Value} {fr : Nat × Nat} {d : TypeDesc} (ho : o.op = .load ty x) (hx : a.eval x = .pointer (some ⟨g,off,none⟩)) (hb : w.heap[g]? = some (.cells C t fr))
  (hcs : (C.toList.drop off).take cs.length = cs) (hu : P.underlying ty = some d) (hd : d.isRow = true) (hi : (P.info? ty).map (·.size) = some cs.length) : Made P o (.agg cs.toArray) a w:=zcs fun W hW => by
 have hr : W.rangeAt g off cs:=fun j v hv => by
  rw [cell_of_row W g (off + j) C t fr (hW.block hb)]
  have hj : j < cs.length:=(List.getElem?_eq_some_iff.1 hv).1
  rw [← hcs,List.getElem?_take_of_lt hj,List.getElem?_drop] at hv
  simpa using hv
 unfold execOp
 simp only [ho,hx,Instr.loadAt,Instr.sureAddr,Sem.run_bind,Sem.run_pure,Result.andThen_ok,run_loadVar_mid W g off ty cs d hr hu hd hi]
theorem zaq {ty : TypeId} {x : Operand} {g off t : Nat} {C : Array Value} {v : Value} {fr : Nat × Nat} (ho : o.op = .load ty x) (hx : a.eval x = .pointer (some ⟨g,off,none⟩)) (hb : w.heap[g]? = some (.cells C t fr))
  (hcs : C[off]? = some v) (hn : ∀ W,(isAgg ty).run P W = .ok false W) : Made P o v a w:=zcs fun W hW => by
 have hr : W.cell? ⟨g,off,none⟩ = some v:=by rw [cell_of_row W g off C t fr (hW.block hb),hcs]
 have hl : (load ⟨g,off,none⟩).run P W = .ok v W:=by simp [go_sem,hr]
 unfold execOp
 simp only [ho,hx,Instr.loadAt,Instr.sureAddr,Sem.run_bind,Sem.run_pure,Result.andThen_ok,loadVar,hn W,Bool.false_eq_true,if_false,hl]
theorem zaf {s : TypeId} {x : Operand} {f g off : Nat} (ho : o.op = .fieldAddr s x f) (hx : a.eval x = ptrTo g) (hf : ∀ W,(Instr.fieldAt s (ptrTo g) f).run P W = .ok (.pointer (some ⟨g,off,none⟩)) W) : Made P o (.pointer (some ⟨g,off,none⟩)) a w:=zcs fun W _ => by
 unfold execOp
 simp only [ho,hx,Sem.run_bind,hf W,Result.andThen_ok,Sem.run_pure]
theorem zah {x : Operand} {v : Value} (ho : o.op = .move x ∨ o.op = .assign x) (hx : a.eval x = v) : Made P o v a w:=zcs fun W _ => by
 unfold execOp
 rcases ho with ho | ho <;> simp only [ho,hx,Sem.run_pure]
theorem zba {ty : TypeId} {parts : List (Nat × Operand)} {vs : List (Nat × Value)} {v : Value} (ho : o.op = .build ty parts.toArray) (hx : parts.map (fun p => (p.1,a.eval p.2)) = vs)
  (hb : ∀ W,(Instr.build ty vs.toArray).run P W = .ok v W) : Made P o v a w:=zcs fun W _ => by
 unfold execOp
 simp only [ho,List.map_toArray]
 rw [show (parts.map fun x => match x with | (i,x) => (i,a.eval x)) = vs from hx]
 simp only [Sem.run_bind,hb W,Result.andThen_ok,Sem.run_pure]
theorem zhm {k : FuncId} {x : Operand} {p : Value} (ho : o.op = .makeFunc (.func k) #[x] #[]) (hx : a.eval x = p) : Made P o (.func (.func k) #[p] #[]) a w:=zcs fun W _ => by
 unfold execOp
 simp only [ho]
 generalize hr : a.eval = ρ at *
 have h1 : (#[x].map ρ) = #[p]:=by simp [hx]
 rw [h1]
 simp [Instr.makeFunc,go_sem]
theorem zbd {c x y : Operand} {b : Bool} {v : Value} (ho : o.op = .pick c x y) (hc : a.eval c = .bool b) (hx : (if b then a.eval x else a.eval y) = v) : Made P o v a w:=zcs fun W _ => by
 unfold execOp
 simp only [ho]
 generalize a.eval = ρ at *
 subst hx
 rw [hc]
 cases b <;> simp [go_sem,asBool]
theorem made_not {ty : TypeId} {x : Operand} {b : Bool} (ho : o.op = .unOp .not ty x) (hx : a.eval x = .bool b) : Made P o (.bool (!b)) a w:=zcs fun W _ => by
 unfold execOp
 simp only [ho]
 generalize a.eval = ρ at *
 rw [hx]
 simp [go_sem,Op.unary]
theorem zbb {x : Operand} {i : Nat} {vs : Array Value} {v : Value} (ho : o.op = .extract x i) (hx : a.eval x = .tuple vs) (hv : vs[i]? = some v) : Made P o v a w:=zcs fun W _ => by
 unfold execOp
 simp only [ho]
 generalize a.eval = ρ at *
 rw [hx]
 simp [Instr.extract,go_sem,hv]
theorem zeh {ty : TypeId} {x : Operand} {v : Value} (ho : o.op = .makeInterface ty x) (hv : ∀ W,(Instr.makeInterface ty (a.eval x)).run P W = .ok v W) : Made P o v a w:=zcs fun W _ => by
 unfold execOp
 simp only [ho,Sem.run_bind,hv W,Result.andThen_ok,Sem.run_pure]
end
end
theorem run_items (d : Nat) (xs ys : Array Value) (A B : Nat → Int) (w : World) : ∀ is : List Nat,(∀ i ∈ is,xs[i]? = some (vI vU (A i))) → (∀ i ∈ is,ys[i]? = some (vI vU (B i))) →
  (Op.eqItems (d + 1) 22 1 xs ys is).run Tryz.prog w = .ok (is.all fun i => A i == B i) w
 | [],_,_ => by simp [Op.eqItems]
 | i :: is,hx,hy => by
  have e1:=run_part_plain (P:=Tryz.prog) w (e:=22) (by kernel_rfl) (xs:=xs) (off:=i * 1) (v:=.int .u64 (A i)) (by rw [Nat.mul_one]; exact hx i (by simp))
  have e2:=run_part_plain (P:=Tryz.prog) w (e:=22) (by kernel_rfl) (xs:=ys) (off:=i * 1) (v:=.int .u64 (B i)) (by rw [Nat.mul_one]; exact hy i (by simp))
  have e3:=run_equalIn_int (P:=Tryz.prog) w d 22 .u64 .u64 (A i) (B i) Tryz.underlying22
  have ih:=run_items d xs ys A B w is (fun j hj => hx j (by simp [hj])) (fun j hj => hy j (by simp [hj]))
  simp only [Op.eqItems,Sem.run_bind,e1,e2,e3,Result.andThen_ok]
  by_cases h : A i = B i
  ·
   simp [h,ih]
  ·
   simp [h]
theorem eql4 (f g : Nat → Int) (w : World) : (binOp .eql 24 (.agg #[vI vU (f 0),vI vU (f 1),vI vU (f 2),vI vU (f 3)]) (.agg #[vI vU (g 0),vI vU (g 1),vI vU (g 2),vI vU (g 3)])).run Tryz.prog w = .ok (.bool ((List.range 4).all fun i => f i == g i)) w:=by
 obtain ⟨i,hi⟩ : ∃ i,Tryz.prog.info? 22 = some i:=Option.isSome_iff_exists.1 (by kernel_rfl)
 have hc : Tryz.prog.cellsOf 22 = 1:=by kernel_rfl
 rw [run_eql_struct,run_equalIn_array (P:=Tryz.prog) w 9999 _ _ Tryz.underlying24 hi,hc]
 rw [run_items 9998 _ _ f g w _ (fun j hj => arr4 (fun j => .int .u64 (f j)) j (by simpa using hj)) (fun j hj => arr4 (fun j => .int .u64 (g j)) j (by simpa using hj))]
 rfl
theorem all_wd (n X Y : Nat) : ((List.range n).all fun i => wd X i == wd Y i) = decide (X % w64 ^ n = Y % w64 ^ n):=by
 rw [Bool.eq_iff_iff]
 simp only [List.all_eq_true,List.mem_range,beq_iff_eq,decide_eq_true_eq]
 constructor
 ·
  intro h
  exact ziu zbf n fun i hi => by have:=h i hi; unfold wd at this; omega
 ·
  intro h i hi
  unfold wd
  rw [← zdj X n i hi,← zdj Y n i hi,h]
theorem zit {X Y : Nat} (hX : X < top) (hY : Y < top) (w : World) : (binOp .eql 24 (.agg #[vI vU (wd X 0),vI vU (wd X 1),vI vU (wd X 2),vI vU (wd X 3)]) (.agg #[vI vU (wd Y 0),vI vU (wd Y 1),vI vU (wd Y 2),vI vU (wd Y 3)])).run Tryz.prog w = .ok (.bool (decide (X = Y))) w:=by
 have h:=eql4 (wd X) (wd Y) w
 rw [all_wd 4 X Y] at h
 have e : (X % w64 ^ 4 = Y % w64 ^ 4) = (X = Y):=by rw [Nat.mod_eq_of_lt (show X < w64 ^ 4 from hX),Nat.mod_eq_of_lt (show Y < w64 ^ 4 from hY)]
 simpa [e] using h
theorem eql_num_same (X : Nat) (w : World) : (binOp .eql 24 (.agg #[vI vU (wd X 0),vI vU (wd X 1),vI vU (wd X 2),vI vU (wd X 3)]) (.agg #[vI vU (wd X 0),vI vU (wd X 1),vI vU (wd X 2),vI vU (wd X 3)])).run Tryz.prog w = .ok (.bool true) w:=by
 have h:=eql4 (wd X) (wd X) w
 rw [all_wd 4 X X] at h
 simpa using h
theorem infoN4 : (Tryz.prog.info? 24).map (·.size) = some 4:=by kernel_rfl
def nc (x : Nat) : Array Value:=#[vI vU (wd x 0),vI vU (wd x 1),vI vU (wd x 2),vI vU (wd x 3)]
def nv (x : Nat) : Value:=.agg (nc x)
theorem zbe (x : Nat) : (nc x).all (·.oneCell') = true:=by simp [nc,Value.oneCell']
theorem iN (x : Nat) : (Tryz.prog.info? 24).map (·.size) = some (nc x).size:=by exact infoN4
theorem uN : Tryz.prog.underlying 24 = some (.array 4 22):=Tryz.underlying24
section
variable {P : Program} {o : Oper} {a : Act} {w : World}
theorem zac {f : FuncId} {fn : Func} {c : Code} (hf : P.funcs[f]? = some fn) (hname : (fn.name == "runtime.NumGoroutine") = false) (hb : fn.body = some c) (args : Array Value) (w : World) :
  (callFunc f args).run P w = .ok (.enter f args) w:=by
 have hn : ¬ fn.name = "runtime.NumGoroutine":=by simpa using hname
 simp [callFunc,go_sem,hf,hb,hn]
theorem zai {k : FuncId} {xs : List Operand} {ts : Array TypeId} {args : List Value} {v : Value} (ho : o.op = .call { callee:=.value (.func k),args:=xs.toArray,argTypes:=ts }) (hx : xs.map a.eval = args)
  (he : ∀ W,(callFunc k args.toArray).run P W = .ok (.enter k args.toArray) W) (hc : ∀ W,Ext w W → Calls P k args.toArray W fun e W' => e = .returned v ∧ Ext W W') : Made P o v a w :=
 made_call (fun W => by
  have h1 : execOp a.eval o = callFunc k (#[] ++ xs.toArray.map a.eval ++ #[]):=by
   cases o
   subst ho
   rfl
  rw [h1,List.map_toArray,hx]
  simpa using he W) hc
theorem zaz {k : FuncId} {xs : List Operand} {ts : Array TypeId} {args : List Value} {v p : Value} {f : Tmp} (ho : o.op = .call { callee:=.value (.tmp f),args:=xs.toArray,argTypes:=ts }) (hf : a.eval (.tmp f) = .func (.func k) #[p] #[]) (hx : xs.map a.eval = args)
  (he : ∀ W,(callFunc k (p :: args).toArray).run P W = .ok (.enter k (p :: args).toArray) W) (hc : ∀ W,Ext w W → Calls P k (p :: args).toArray W fun e W' => e = .returned v ∧ Ext W W') : Made P o v a w :=
 made_call (fun W => by
  unfold execOp
  simp only [ho,resolve,hf,List.map_toArray,hx,Deferred.ofValue,Sem.run_bind,Sem.run_pure,Result.andThen_ok,invoke]
  simpa using he W) hc
theorem zha {x : Operand} {ty ty2 : TypeId} {c : Int} {v : Bool} (ho : o.op = .binOp .geq ty x (.const (.int .i64 0)) ty2) (hx : a.eval x = .int .i64 c) (hv : decide (0 ≤ c) = v) : Made P o (.bool v) a w:=zcs fun W _ => by
 have h0 : a.eval (.const (.int .i64 0)) = .int .i64 0:=rfl
 unfold execOp
 simp only [ho]
 generalize a.eval = ρ at *
 subst hv
 rw [hx,h0]
 simp [go_sem,eqGuard]
theorem zcd {op : BinOp} {x y : Operand} {ty ty2 : TypeId} {u v r : Value} (ho : o.op = .binOp op ty x y ty2) (hx : a.eval x = u) (hy : a.eval y = v)
  (hg : ∀ W,(eqGuard op ty x y u v).run P W = .ok () W) (hr : ∀ W,(binOp op ty u v).run P W = .ok r W) : Made P o r a w:=zcs fun W _ => by
 unfold execOp
 simp only [ho,hx,hy,Sem.run_bind,hg W,Result.andThen_ok,hr W,Sem.run_pure]
theorem made_slice {ty : TypeId} {x : Operand} {lo hi mx : Option Operand} {u v : Value} (ho : o.op = .slice ty x lo hi mx) (hx : a.eval x = u)
  (h : ∀ W,(Instr.sliceAt ty u (lo.map a.eval) (hi.map a.eval) (mx.map a.eval)).run P W = .ok v W) : Made P o v a w:=zcs fun W _ => by
 unfold execOp
 simp only [ho,hx,Sem.run_bind,h W,Result.andThen_ok,Sem.run_pure]
theorem neq_of {t : TypeId} {c d : Array Value} {b r : Bool} {W : World} (h : (binOp .eql t (.agg c) (.agg d)).run P W = .ok (.bool b) W) (hr : (!b) = r) : (binOp .neq t (.agg c) (.agg d)).run P W = .ok (.bool r) W:=by
 subst hr
 have h1 : (do pure (Value.bool (← Op.equal t (.agg c) (.agg d))) : Sem Value).run P W = .ok (.bool b) W:=h
 show (do pure (Value.bool (!(← Op.equal t (.agg c) (.agg d)))) : Sem Value).run P W = .ok (.bool (!b)) W
 simp only [Sem.run_bind,Sem.run_pure] at h1 ⊢
 generalize (Op.equal t (.agg c) (.agg d)).run P W = r at h1 ⊢
 cases r with
 | ok v w' =>
  simp only [Result.andThen_ok,Result.ok.injEq,Value.bool.injEq] at h1 ⊢
  exact ⟨by rw [h1.1],h1.2⟩
 | halt x w' => simp [Result.andThen] at h1
end
section
variable (W : World)
theorem hzN : (Instr.alloc 24 true (.tuple #[])).run Tryz.prog W = .ok (ptrTo W.heap.size) (W.alloc (.cells #[vI vU 0,vI vU 0,vI vU 0,vI vU 0] 24)):=by simp [Instr.alloc,go_sem]
theorem wd_z : wd 0 0 = 0 ∧ wd 0 1 = 0 ∧ wd 0 2 = 0 ∧ wd 0 3 = 0:=by decide
theorem bldN0 : (Instr.build 24 [].toArray).run Tryz.prog W = .ok (nv 0) W:=by
 obtain ⟨h0,h1,h2,h3⟩:=wd_z
 unfold nv nc
 rw [h0,h1,h2,h3]
 simp [Instr.build,go_sem]
theorem bldN1 : (Instr.build 24 [(0,.int .u64 1)].toArray).run Tryz.prog W = .ok (nv 1) W:=by
 unfold nv nc
 rw [show wd 1 0 = 1 by decide,show wd 1 1 = 0 by decide,show wd 1 2 = 0 by decide,show wd 1 3 = 0 by decide]
 simp [Instr.build,go_sem]
end
theorem zed {w : World} {o : Obj} {k : Nat} (hk : k = w.heap.size) : (w.alloc o).heap[k]? = some o:=by subst hk; exact zbv w o
theorem blocks1 (w : World) (A : Obj) : Ext w (w.alloc A) ∧ (w.alloc A).heap[w.heap.size]? = some A:=⟨Ext.alloc _ _,zed rfl⟩
theorem blocks2 (w : World) (A B : Obj) : Ext w ((w.alloc A).alloc B) ∧ ((w.alloc A).alloc B).heap[w.heap.size]? = some A ∧ ((w.alloc A).alloc B).heap[w.heap.size + 1]? = some B :=
 ⟨(Ext.alloc _ _).trans (Ext.alloc _ _),(Ext.alloc _ _).block (zed rfl),zed (by simp)⟩
theorem blocks3 (w : World) (A B C : Obj) : Ext w (((w.alloc A).alloc B).alloc C) ∧ (((w.alloc A).alloc B).alloc C).heap[w.heap.size]? = some A ∧ (((w.alloc A).alloc B).alloc C).heap[w.heap.size + 1]? = some B ∧ (((w.alloc A).alloc B).alloc C).heap[w.heap.size + 1 + 1]? = some C :=
 ⟨(Ext.alloc _ _).trans ((Ext.alloc _ _).trans (Ext.alloc _ _)),((Ext.alloc _ _).trans (Ext.alloc _ _)).block (zed rfl),(Ext.alloc _ _).block (zed (by simp)),zed (by simp)⟩
theorem blocks4 (w : World) (A B C D : Obj) : Ext w ((((w.alloc A).alloc B).alloc C).alloc D) ∧ ((((w.alloc A).alloc B).alloc C).alloc D).heap[w.heap.size]? = some A ∧ ((((w.alloc A).alloc B).alloc C).alloc D).heap[w.heap.size + 1]? = some B ∧ ((((w.alloc A).alloc B).alloc C).alloc D).heap[w.heap.size + 1 + 1]? = some C ∧ ((((w.alloc A).alloc B).alloc C).alloc D).heap[w.heap.size + 1 + 1 + 1]? = some D :=
 ⟨(Ext.alloc _ _).trans ((Ext.alloc _ _).trans ((Ext.alloc _ _).trans (Ext.alloc _ _))),((Ext.alloc _ _).trans ((Ext.alloc _ _).trans (Ext.alloc _ _))).block (zed rfl),((Ext.alloc _ _).trans (Ext.alloc _ _)).block (zed (by simp)),(Ext.alloc _ _).block (zed (by simp)),zed (by simp)⟩
theorem Ext.new {w w1 W : World} {r : Nat} (h : Ext w w1) (k : But r w1 W) (hr : w.heap.size ≤ r) : Ext w W:=Below.trans h (k.new hr (Below.size h))
theorem zcu {P : Program} {o : Oper} {a : Act} {w : World} {ty : TypeId} {x : Operand} {b r : Bool} (ho : o.op = .unOp .not ty x) (hx : a.eval x = .bool b) (hr : (!b) = r) : Made P o (.bool r) a w:=hr ▸ made_not ho hx
theorem zid {P : Program} {ops : Array Oper} {Q : Exit → Act → World → Prop} {rest : List Oper} {o : Oper} {a : Act} {w : World} {ty : TypeId} {x : Operand} {g t : Nat} {C cs : Array Value} {fr : Nat × Nat} {d : TypeDesc} (hg : o.guard = none) (ho : o.op = .load ty x) (hx : a.eval x = ptrTo g) (hb : w.heap[g]? = some (.cells C t fr))
  (hcs : C = cs) (hu : P.underlying ty = some d) (hd : d.isRow = true) (hi : (P.info? ty).map (·.size) = some cs.size) (h : wpList P ops Q rest (a.put o.dst (.agg cs)) w) : wpList P ops Q (o :: rest) a w:=by
 subst hcs
 refine wpList_load_mid hg ty x ho g 0 hx C.toList d (fun j v hv => by rw [cell_of_row w g (0 + j) C t fr hb,Nat.zero_add]; simpa using hv) hu hd (by simpa using hi) ?_
 simpa using h
theorem zet {w W : World} {g r : Nat} {o : Obj} (hB : But r w W) (hg : w.heap[g]? = some o) (hne : g ≠ r) : W.heap[g]? = some o:=by
 rw [hB.block g (Array.getElem?_eq_some_iff.1 hg).1 (by intro e; simp at e; exact hne e),hg]
theorem eqN {X : Nat} (W : World) : (binOp .eql 24 (nv X) (nv X)).run Tryz.prog W = .ok (.bool true) W:=eql_num_same X W
theorem neN {X : Nat} (W : World) : (binOp .neq 24 (nv X) (nv X)).run Tryz.prog W = .ok (.bool false) W:=neq_of (eqN W) rfl
theorem gN (X Y : Nat) (op : BinOp) (x y : Operand) (W : World) : (eqGuard op 24 x y (nv X) (nv Y)).run Tryz.prog W = .ok () W:=by
 unfold nv nc
 cases op <;> simp [eqGuard,go_sem]
def lev (z : Nat → Nat) : Nat → Nat
 | 0 => 0
 | i + 1 => lev z i + z i * 256 ^ i
theorem zhv {z : Nat → Nat} (hz : ∀ j,z j < 256) : ∀ i,lev z i < 256 ^ i
 | 0 => by simp [lev]
 | i + 1 => by
  have h:=zhv hz i
  have h2 : z i * 256 ^ i ≤ 255 * 256 ^ i:=Nat.mul_le_mul_right _ (by have:=hz i; omega)
  show lev z i + z i * 256 ^ i < _
  rw [Nat.pow_succ]
  omega
theorem dg_put (m q r L c : Nat) (hr : r < m) (hL : L < 256 ^ (m * q + r)) (hc : c < 256) (j : Nat) :
  dg (256 ^ m) (L + c * 256 ^ (m * q + r)) j = if j = q then dg (256 ^ m) L j + c * 256 ^ r else dg (256 ^ m) L j:=by
 have hB : 0 < 256 ^ m:=Nat.pow_pos (by omega)
 have hp : ∀ k,0 < (256 ^ m) ^ k:=fun k => Nat.pow_pos hB
 have e : 256 ^ (m * q + r) = (256 ^ m) ^ q * 256 ^ r:=by rw [Nat.pow_add,Nat.pow_mul]
 have hrm : 256 ^ r * 256 ≤ 256 ^ m:=by rw [← Nat.pow_succ]; exact Nat.pow_le_pow_right (by omega) hr
 rw [e] at hL ⊢
 have hLq : L / (256 ^ m) ^ q < 256 ^ r:=by rw [Nat.div_lt_iff_lt_mul (hp q),Nat.mul_comm]; exact hL
 have hcr : c * 256 ^ r ≤ 255 * 256 ^ r:=Nat.mul_le_mul_right _ (by omega)
 rw [show c * ((256 ^ m) ^ q * 256 ^ r) = (256 ^ m) ^ q * (c * 256 ^ r) by rw [Nat.mul_left_comm]]
 by_cases hj : j = q
 ·
  subst hj
  rw [if_pos rfl]
  unfold dg
  rw [Nat.add_mul_div_left _ _ (hp j),Nat.mod_eq_of_lt (by omega),Nat.mod_eq_of_lt (by omega)]
 ·
  rw [if_neg hj]
  by_cases hlt : j < q
  ·
   rw [← zdj _ q j hlt,Nat.add_mul_mod_self_left,zdj _ q j hlt]
  ·
   have hjq : q + 1 ≤ j:=by omega
   have hle : (256 ^ m) ^ (q + 1) ≤ (256 ^ m) ^ j:=Nat.pow_le_pow_right hB hjq
   rw [Nat.pow_succ] at hle
   have h1 : (256 ^ m) ^ q * (256 ^ r + c * 256 ^ r) ≤ (256 ^ m) ^ q * 256 ^ m:=Nat.mul_le_mul_left _ (by omega)
   rw [Nat.mul_add] at h1
   unfold dg
   rw [Nat.div_eq_of_lt (show L < _ by omega),Nat.div_eq_of_lt (show L + (256 ^ m) ^ q * (c * 256 ^ r) < _ by omega)]
theorem w64_bytes : w64 = 256 ^ 8:=by decide
theorem w16_bytes : w16 = 256 ^ 2:=by decide
theorem two_256 (r : Nat) : 2 ^ (r * 8) = 256 ^ r:=by rw [Nat.mul_comm,Nat.pow_mul]
theorem wd_put (L c k j : Nat) (hL : L < 256 ^ k) (hc : c < 256) : wd (L + c * 256 ^ k) j = if j = k / 8 then wd L j + (c * 256 ^ (k % 8) : Nat) else wd L j:=by
 have h:=dg_put 8 (k / 8) (k % 8) L c (Nat.mod_lt _ (by omega)) (by rw [Nat.div_add_mod]; exact hL) hc j
 rw [Nat.div_add_mod,← w64_bytes] at h
 unfold wd
 rw [h]
 split
 ·
  rw [Int.natCast_add]
 ·
  rfl
theorem of_word (L c k : Nat) (hL : L < 256 ^ k) (hc : c < 256) : bits .or .u64 (wd L (k / 8)) (IntKind.u64.wrap ((c : Int) * 2 ^ (k % 8 * 8))) = wd (L + c * 256 ^ k) (k / 8):=by
 have hr : k % 8 < 8:=Nat.mod_lt _ (by omega)
 have hp : 256 ^ (k % 8) ≤ 256 ^ 7:=Nat.pow_le_pow_right (by omega) (by omega)
 have h7 : (256 : Nat) ^ 7 = 72057594037927936:=by decide
 have hcr : c * 256 ^ (k % 8) ≤ 255 * 256 ^ (k % 8):=Nat.mul_le_mul_right _ (by omega)
 have hq : dg w64 L (k / 8) < 256 ^ (k % 8):=by
  have e : 256 ^ k = w64 ^ (k / 8) * 256 ^ (k % 8):=by
   rw [w64_bytes,← Nat.pow_mul,← Nat.pow_add,Nat.div_add_mod]
  unfold dg
  refine Nat.lt_of_le_of_lt (Nat.mod_le _ _) ?_
  rw [Nat.div_lt_iff_lt_mul (Nat.pow_pos zbf),Nat.mul_comm,← e]
  exact hL
 have ec : (c : Int) * 2 ^ (k % 8 * 8) = ((c * 256 ^ (k % 8) : Nat) : Int):=by
  rw [← two_256,Int.natCast_mul,Int.natCast_pow]
  rfl
 rw [wd_put L c k _ hL hc,if_pos rfl,ec,IntKind.wrap_u64]
 unfold wd
 rw [show ((c * 256 ^ (k % 8) : Nat) : Int) % 18446744073709551616 = ((c * 256 ^ (k % 8) : Nat) : Int) by omega]
 rw [u64_or_nat _ _ (by omega) (by omega),Nat.or_comm,nat_join (8 * (k % 8)) _ _ (by rw [Nat.mul_comm 8,two_256]; exact Nat.mul_mod_left _ _) (by rw [Nat.mul_comm 8,two_256]; exact hq)]
 omega
theorem of_step (z : Nat → Nat) (k : Nat) (hz : ∀ j,z j < 256) (i : Nat) :
  (if i = k / 8 then Value.int .u64 (wd (lev z k + z k * 256 ^ k) (k / 8)) else Value.int .u64 (wd (lev z k) i)) = Value.int .u64 (wd (lev z (k + 1)) i):=by
 show _ = Value.int .u64 (wd (lev z k + z k * 256 ^ k) i)
 by_cases h : i = k / 8
 ·
  rw [if_pos h,h]
 ·
  rw [if_neg h,wd_put _ _ _ _ (zhv hz k) (hz k),if_neg h]
theorem zey (i : Nat) : wd 0 i = 0:=by unfold wd dg; simp
theorem of_some (b o n c : Nat) (y : Nat → Nat) (hy : ∀ j,y j < 256) (hn : n ≤ 32) (w : World) (hb : b < w.heap.size) (hcell : ∀ j,j < n → w.cell? ⟨b,o + j,none⟩ = some (.int .u8 (y j))) :
  Calls Tryz.prog 82 #[.slice (some ⟨b,o,none⟩) n c] w fun e w' => e = .returned (.tuple #[.agg #[vI vU (wd (lev (fun k => y (n - 1 - k)) n) 0),vI vU (wd (lev (fun k => y (n - 1 - k)) n) 1),vI vU (wd (lev (fun k => y (n - 1 - k)) n) 2),vI vU (wd (lev (fun k => y (n - 1 - k)) n) 3)],.nilIface]) ∧ Below w.heap.size w w':=by
 have HY:=veil hy
 have HC:=veil hcell
 clear hy hcell
 have hn' : (n : Int) ≤ 32:=by omega
 go_enter Tryz.func82,Tryz.ntmps82
 go_wp2
 go_loopw [13] (fun i wr => ∃ k : Nat,k ≤ n ∧ i = .int .i64 k ∧ wr.rowIs w.heap.size 24 4 (fun _ => .int .u64 0) ∧ wr.rowIs (w.heap.size + 1) 24 4 (fun j => .int .u64 (wd (lev (fun k => y (n - 1 - k)) k) j)) ∧ Below w.heap.size w wr)
  (fun i _ => n - (intOf i).toNat)
 case atStart => exact ⟨0,by omega,rfl,(zag (n:=4) rfl rfl (arr4 fun _ => .int .u64 0)).alloc _,(zag (n:=4) (f:=fun _ => .int .u64 0) (by simp) rfl (arr4 fun _ => .int .u64 0)).congr (fun i _ => by rw [lev,zey]),((Below.refl _ _).alloc (by simp) _).alloc (by simp) _⟩
 case round =>
  obtain ⟨k,hk,rfl,hR,hS,hbel⟩:=hrel
  by_cases hlt : k < n
  ·
   have hk8 : k / 8 < 4:=by omega
   have c1:=hS.cell hk8
   have f1:=hS.frozen (k / 8)
   obtain ⟨j,hj⟩ : ∃ j,j = n - 1 - k:=⟨_,rfl⟩
   have hji : (n : Int) - 1 - (k : Int) = (j : Int):=by omega
   have hjn : (j : Int) < (n : Int):=by omega
   have hkn : (k : Int) < (n : Int):=by omega
   have c2:=(hbel.cell (p:=⟨b,o + j,none⟩) hb).trans (HC.out j (by omega))
   have l1:=wd_lo (lev (fun k => y (n - 1 - k)) k) (k / 8)
   have u1:=wd_le (lev (fun k => y (n - 1 - k)) k) (k / 8)
   have u2 : (y j : Int) ≤ 255:=by have:=HY.out j; omega
   have hst:=of_step (fun k => y (n - 1 - k)) k (fun j => HY.out _)
   have HS:=veil hst
   clear hst
   have HJ:=veil hj
   clear hj
   go_wp2
   go_region
   all_goals
    go_wp2
    go_roundw
    case rel =>
     rw [show y j = y (n - 1 - k) by rw [HJ.out],of_word _ _ _ (zhv (fun j => HY.out _) k) (HY.out _)]
     exact ⟨k + 1,by omega,by go_num,(zay hR (by omega) _).drew,((hS.set (k / 8) _).congr fun i _ => HS.out i).drew,(zas hbel (by omega) _).drew⟩
    case measure => simp [intOf]; omega
  ·
   obtain rfl : k = n:=by omega
   obtain ⟨c0,c1,c2,c3⟩:=zae hS
   obtain ⟨d0,d1,d2,d3⟩:=zae hR
   obtain ⟨f0,f1,f2,f3⟩:=zaj hR
   go_wp2
   refine bodyPost_ret (zcb rfl _ _ w.heap.size 24 #[vI vU (wd (lev (fun j => y (k - 1 - j)) k) 0),vI vU (wd (lev (fun j => y (k - 1 - j)) k) 1),vI vU (wd (lev (fun j => y (k - 1 - j)) k) 2),vI vU (wd (lev (fun j => y (k - 1 - j)) k) 3)] (0,0) 4 22 rfl (blk4 (put4 hR fun j => .int .u64 (wd (lev (fun j => y (k - 1 - j)) k) j))) Tryz.underlying24 (by kernel_rfl)) rfl ⟨rfl,zap hbel (Nat.le_refl _) _ _ _ _⟩
def qc (x y : Nat) (f : Bool) : Array Value:=#[vI vU (wd x 0),vI vU (wd x 1),vI vU (wd x 2),vI vU (wd x 3),vI vU (wd y 0),vI vU (wd y 1),vI vU (wd y 2),vI vU (wd y 3),.bool (f)]
def qv (x y : Nat) (f : Bool) : Value:=.agg (qc x y f)
theorem zev (x y : Nat) (f : Bool) : (qc x y f).all (·.oneCell') = true:=by simp [qc,Value.oneCell']
theorem iT (x y : Nat) (f : Bool) : (Tryz.prog.info? 29).map (·.size) = some (qc x y f).size:=by kernel_rfl
theorem zdg (W : World) : (isAgg 4).run Tryz.prog W = .ok false W:=by simp [isAgg,go_sem]
section
variable (g : Nat) (W : World)
theorem fldT0 : (Instr.fieldAt 29 (ptrTo g) 0).run Tryz.prog W = .ok (.pointer (some ⟨g,0,none⟩)) W:=by simp [Instr.fieldAt,go_sem]
theorem fldT1 : (Instr.fieldAt 29 (ptrTo g) 1).run Tryz.prog W = .ok (.pointer (some ⟨g,4,none⟩)) W:=by simp [Instr.fieldAt,go_sem]
theorem fldT2 : (Instr.fieldAt 29 (ptrTo g) 2).run Tryz.prog W = .ok (.pointer (some ⟨g,8,none⟩)) W:=by simp [Instr.fieldAt,go_sem]
theorem hzT : (Instr.alloc 29 true (.tuple #[])).run Tryz.prog W = .ok (ptrTo W.heap.size) (W.alloc (.cells #[vI vU 0,vI vU 0,vI vU 0,vI vU 0,vI vU 0,vI vU 0,vI vU 0,vI vU 0,.bool false] 29)):=by simp [Instr.alloc,go_sem]
theorem bldT (x y : Nat) : (Instr.build 29 [(0,nv x),(1,nv y)].toArray).run Tryz.prog W = .ok (qv x y false) W:=by simp [Instr.build,go_sem,nv,nc,qv,qc]
theorem bldT0 : (Instr.build 29 [].toArray).run Tryz.prog W = .ok (qv 0 0 false) W:=by
 obtain ⟨h0,h1,h2,h3⟩:=wd_z
 unfold qv qc
 rw [h0,h1,h2,h3]
 simp [Instr.build,go_sem]
theorem bldTF : (Instr.build 29 [(2,.bool true)].toArray).run Tryz.prog W = .ok (qv 0 0 true) W:=by
 obtain ⟨h0,h1,h2,h3⟩:=wd_z
 unfold qv qc
 rw [h0,h1,h2,h3]
 simp [Instr.build,go_sem]
end
theorem add64 (x y c : Int) (hx : 0 ≤ x) (hy : 0 ≤ y) (hc0 : 0 ≤ c) (hc : c ≤ 1) (w : World) :
  (callFunc 124 #[vI vU x,vI vU y,vI vU c]).run Tryz.prog w = .ok (.value (.tuple #[vI vU ((x + y + c) % 18446744073709551616),vI vU ((x + y + c) / 18446744073709551616)])) w:=by
 rw [run_callFunc_extern Tryz.func124 (by kernel_rfl) (by kernel_rfl) (by kernel_rfl) (e:=add64Entry) (by kernel_rfl),run_add64 x y c hx hy hc0 hc]
 rfl
def cyI (X Y i : Nat) : Int:=(cy w64 X Y i : Nat)
theorem add64_at (X Y k : Nat) (w : World) :
  (callFunc 124 #[vI vU (wd X k),vI vU (wd Y k),vI vU (cyI X Y k)]).run Tryz.prog w = .ok (.value (.tuple #[vI vU (wd (X + Y) k),vI vU (cyI X Y (k + 1))])) w:=by
 have hc:=cy_le zbf X Y k
 rw [add64 _ _ _ (wd_lo _ _) (wd_lo _ _) (by unfold cyI; omega) (by unfold cyI; omega)]
 unfold wd cyI
 rw [cy_succ zbf,dg_add zbf]
 unfold w64
 simp
theorem cyI_top {X Y : Nat} (hX : X < top) (hY : Y < top) : (cyI X Y 4 != 0) = decide (top ≤ X + Y):=by
 unfold cyI
 rw [cy_top (n:=4) hX hY]
 show _ = decide (w64 ^ 4 ≤ X + Y)
 by_cases h : w64 ^ 4 ≤ X + Y <;> simp [h]
theorem add_any (X Y : Nat) (hX : X < top) (hY : Y < top) (w : World) :
  Calls Tryz.prog 109 #[.agg #[vI vU (wd X 0),vI vU (wd X 1),vI vU (wd X 2),vI vU (wd X 3)],.agg #[vI vU (wd Y 0),vI vU (wd Y 1),vI vU (wd Y 2),vI vU (wd Y 3)]] w fun e w' =>
   e = .returned (.tuple #[.agg #[vI vU (wd (X + Y) 0),vI vU (wd (X + Y) 1),vI vU (wd (X + Y) 2),vI vU (wd (X + Y) 3)],.bool (decide (top ≤ X + Y))]) ∧ Below w.heap.size w w':=by
 have h29:=fun (k : Nat) (W : World) => add64_at X Y k W
 go_enter Tryz.func109,Tryz.ntmps109
 go_wp2
 go_loopw [7,9] (fun c i wr => ∃ k : Nat,k ≤ 4 ∧ i = .int .i64 k ∧ c = .int .u64 (cyI X Y k) ∧ wr.rowIs w.heap.size 24 4 (fun j => .int .u64 (wd X j))
   ∧ wr.rowIs (w.heap.size + 1) 24 4 (fun j => .int .u64 (wd Y j)) ∧ wr.rowIs (w.heap.size + 1 + 1) 24 4 (fun _ => .int .u64 0)
   ∧ wr.rowIs (w.heap.size + 1 + 1 + 1) 24 4 (fun j => .int .u64 (if j < k then wd (X + Y) j else 0)) ∧ Below w.heap.size w wr)
  (fun _ i _ => 4 - (intOf i).toNat)
 case atStart => exact ⟨0,by omega,rfl,by simp [cyI,cy_zero],(((zag (n:=4) (by simp) rfl (arr4 fun j => .int .u64 (wd X j))).alloc _).alloc _).alloc _,((zag (n:=4) (by simp) rfl (arr4 fun j => .int .u64 (wd Y j))).alloc _).alloc _,(zag (n:=4) (by simp) rfl (arr4 fun _ => .int .u64 0)).alloc _,zag (n:=4) (by simp) rfl (arr4 fun _ => .int .u64 0),((((Below.refl _ _).alloc (by simp) _).alloc (by simp) _).alloc (by simp; omega) _).alloc (by simp; omega) _⟩
 case round =>
  obtain ⟨k,hk,rfl,rfl,hRX,hRY,hRZ,hRS,hbel⟩:=hrel
  by_cases hlt : k < 4
  ·
   have c1:=hRX.cell hlt
   have c2:=hRY.cell hlt
   have c3:=hRS.cell hlt
   have f3:=hRS.frozen k
   go_wp2
   go_region_with (fail)
   all_goals
    go_wp2
    go_roundw
    case rel => exact ⟨k + 1,by omega,by go_num,rfl,(zay hRX (by omega) _).drew,(zay hRY (by omega) _).drew,(zay hRZ (by omega) _).drew,((hRS.set k _).congr (row_step hlt)).drew,(zas hbel (by omega) _).drew⟩
    case measure => simp [intOf]; omega
  ·
   obtain rfl : k = 4:=by omega
   obtain ⟨c0,c1,c2,c3⟩:=zae hRS
   obtain ⟨d0,d1,d2,d3⟩:=zae hRZ
   obtain ⟨f0,f1,f2,f3⟩:=zaj hRZ
   simp only [show (0 : Nat) < 4 from by omega,show (1 : Nat) < 4 from by omega,show (2 : Nat) < 4 from by omega,show (3 : Nat) < 4 from by omega,if_true] at c0 c1 c2 c3
   clear hRX hRY hRS
   have hz:=cyI_top hX hY
   go_wp2
   refine bodyPost_ret (zcb rfl _ _ (w.heap.size + 1 + 1) 24 #[vI vU (wd (X + Y) 0),vI vU (wd (X + Y) 1),vI vU (wd (X + Y) 2),vI vU (wd (X + Y) 3)] (0,0) 4 22 rfl (blk4 (put4 hRZ fun j => .int .u64 (wd (X + Y) j))) Tryz.underlying24 (by kernel_rfl)) rfl ⟨?_,zap hbel (by omega) _ _ _ _⟩
   rfl
theorem add_calls (X Y : Nat) (hX : X < top) (hY : Y < top) (w : World) :
  Calls Tryz.prog 109 #[.agg #[vI vU (wd X 0),vI vU (wd X 1),vI vU (wd X 2),vI vU (wd X 3)],.agg #[vI vU (wd Y 0),vI vU (wd Y 1),vI vU (wd Y 2),vI vU (wd Y 3)]] w fun e w' => e = .returned (.tuple #[.agg #[vI vU (wd ((X + Y) % top) 0),vI vU (wd ((X + Y) % top) 1),vI vU (wd ((X + Y) % top) 2),vI vU (wd ((X + Y) % top) 3)],.bool (decide (top ≤ X + Y))]) ∧ Below w.heap.size w w':=by
 rw [zeu _ 0 (by omega),zeu _ 1 (by omega),zeu _ 2 (by omega),zeu _ 3 (by omega)]
 exact add_any X Y hX hY w
def sub64Entry : Array Value → Sem Value:=fun args => do
 let (x,y,b) ← Extern.MathBitsCarry.three "Sub64" args
 pure (Extern.MathBitsCarry.pair ((x + Extern.MathBitsCarry.m64 - y - b) % Extern.MathBitsCarry.m64) (if x < y + b then 1 else 0))
theorem run_sub64 (x y b : Nat) (hb : b ≤ 1) (w : World) :
  (sub64Entry #[vI vU (x : Int),vI vU (y : Int),vI vU (b : Int)]).run Tryz.prog w =
   .ok (.tuple #[vI vU (((x + w64 - y - b) % w64 : Nat) : Int),vI vU ((if x < y + b then 1 else 0 : Nat) : Int)]) w:=by
 have : b = 0 ∨ b = 1:=by omega
 rcases this with rfl | rfl <;> rfl
theorem sub64 (x y b : Nat) (hb : b ≤ 1) (w : World) :
  (callFunc 110 #[vI vU (x : Int),vI vU (y : Int),vI vU (b : Int)]).run Tryz.prog w = .ok (.value (.tuple #[vI vU (((x + w64 - y - b) % w64 : Nat) : Int),vI vU ((if x < y + b then 1 else 0 : Nat) : Int)])) w:=by
 rw [run_callFunc_extern Tryz.func110 (by kernel_rfl) (by kernel_rfl) (by kernel_rfl) (e:=sub64Entry) (by kernel_rfl),run_sub64 x y b hb]
 rfl
def bwI (X Y i : Nat) : Int:=(bw w64 X Y i : Nat)
theorem sub64_at (X Y k : Nat) (hk : k < 4) (hY : Y ≤ top) (w : World) :
  (callFunc 110 #[vI vU (wd X k),vI vU (wd Y k),vI vU (bwI X Y k)]).run Tryz.prog w = .ok (.value (.tuple #[vI vU (wd (X + top - Y) k),vI vU (bwI X Y (k + 1))])) w:=by
 unfold wd bwI
 rw [sub64 _ _ _ (bw_le w64 X Y k)]
 unfold top at hY ⊢
 rw [bw_succ zbf,dg_sub zbf X Y 4 k hk hY]
theorem bwI_top {X Y : Nat} (hX : X < top) (hY : Y < top) : (bwI X Y 4 != 0) = decide (X < Y):=by
 unfold bwI
 rw [bw_top (n:=4) hX hY]
 by_cases h : X < Y <;> simp [h]
theorem sub_any (X Y : Nat) (hX : X < top) (hY : Y < top) (w : World) :
  Calls Tryz.prog 77 #[.agg #[vI vU (wd X 0),vI vU (wd X 1),vI vU (wd X 2),vI vU (wd X 3)],.agg #[vI vU (wd Y 0),vI vU (wd Y 1),vI vU (wd Y 2),vI vU (wd Y 3)]] w fun e w' =>
   e = .returned (.tuple #[.agg #[vI vU (wd (X + top - Y) 0),vI vU (wd (X + top - Y) 1),vI vU (wd (X + top - Y) 2),vI vU (wd (X + top - Y) 3)],.bool (decide (X < Y))]) ∧ Below w.heap.size w w':=by
 go_enter Tryz.func77,Tryz.ntmps77
 go_wp2
 go_loopw [7,9] (fun c i wr => ∃ k : Nat,k ≤ 4 ∧ i = .int .i64 k ∧ c = .int .u64 (bwI X Y k) ∧ wr.rowIs w.heap.size 24 4 (fun j => .int .u64 (wd X j))
   ∧ wr.rowIs (w.heap.size + 1) 24 4 (fun j => .int .u64 (wd Y j)) ∧ wr.rowIs (w.heap.size + 1 + 1) 24 4 (fun _ => .int .u64 0)
   ∧ wr.rowIs (w.heap.size + 1 + 1 + 1) 24 4 (fun j => .int .u64 (if j < k then wd (X + top - Y) j else 0)) ∧ Below w.heap.size w wr)
  (fun _ i _ => 4 - (intOf i).toNat)
 case atStart => exact ⟨0,by omega,rfl,by simp [bwI,bw_zero],(((zag (n:=4) (by simp) rfl (arr4 fun j => .int .u64 (wd X j))).alloc _).alloc _).alloc _,((zag (n:=4) (by simp) rfl (arr4 fun j => .int .u64 (wd Y j))).alloc _).alloc _,(zag (n:=4) (by simp) rfl (arr4 fun _ => .int .u64 0)).alloc _,zag (n:=4) (by simp) rfl (arr4 fun _ => .int .u64 0),((((Below.refl _ _).alloc (by simp) _).alloc (by simp) _).alloc (by simp; omega) _).alloc (by simp; omega) _⟩
 case round =>
  obtain ⟨k,hk,rfl,rfl,hRX,hRY,hRZ,hRS,hbel⟩:=hrel
  by_cases hlt : k < 4
  ·
   have c1:=hRX.cell hlt
   have c2:=hRY.cell hlt
   have c3:=hRS.cell hlt
   have f3:=hRS.frozen k
   have h30:=fun (W : World) => sub64_at X Y k hlt (Nat.le_of_lt hY) W
   go_wp2
   go_region_with (fail)
   all_goals
    go_wp2
    go_roundw
    case rel => exact ⟨k + 1,by omega,by go_num,rfl,(zay hRX (by omega) _).drew,(zay hRY (by omega) _).drew,(zay hRZ (by omega) _).drew,((hRS.set k _).congr (row_step hlt)).drew,(zas hbel (by omega) _).drew⟩
    case measure => simp [intOf]; omega
  ·
   obtain rfl : k = 4:=by omega
   obtain ⟨c0,c1,c2,c3⟩:=zae hRS
   obtain ⟨d0,d1,d2,d3⟩:=zae hRZ
   obtain ⟨f0,f1,f2,f3⟩:=zaj hRZ
   simp only [show (0 : Nat) < 4 from by omega,show (1 : Nat) < 4 from by omega,show (2 : Nat) < 4 from by omega,show (3 : Nat) < 4 from by omega,if_true] at c0 c1 c2 c3
   clear hRX hRY hRS
   have hz:=bwI_top hX hY
   go_wp2
   refine bodyPost_ret (zcb rfl _ _ (w.heap.size + 1 + 1) 24 #[vI vU (wd (X + top - Y) 0),vI vU (wd (X + top - Y) 1),vI vU (wd (X + top - Y) 2),vI vU (wd (X + top - Y) 3)] (0,0) 4 22 rfl (blk4 (put4 hRZ fun j => .int .u64 (wd (X + top - Y) j))) Tryz.underlying24 (by kernel_rfl)) rfl ⟨?_,zap hbel (by omega) _ _ _ _⟩
   rfl
theorem sub_calls (X Y : Nat) (hX : X < top) (hY : Y < top) (w : World) :
  Calls Tryz.prog 77 #[.agg #[vI vU (wd X 0),vI vU (wd X 1),vI vU (wd X 2),vI vU (wd X 3)],.agg #[vI vU (wd Y 0),vI vU (wd Y 1),vI vU (wd Y 2),vI vU (wd Y 3)]] w fun e w' => e = .returned (.tuple #[.agg #[vI vU (wd ((X + top - Y) % top) 0),vI vU (wd ((X + top - Y) % top) 1),vI vU (wd ((X + top - Y) % top) 2),vI vU (wd ((X + top - Y) % top) 3)],.bool (decide (X < Y))]) ∧ Below w.heap.size w w':=by
 rw [zeu _ 0 (by omega),zeu _ 1 (by omega),zeu _ 2 (by omega),zeu _ 3 (by omega)]
 exact sub_any X Y hX hY w
def cmpN (X Y : Nat) : Int:=if X < Y then -1 else if Y < X then 1 else 0
theorem ziv (B X Y k : Nat) (hB : 0 < B) : cmpN (X % B ^ (k + 1)) (Y % B ^ (k + 1)) = if dg B X k < dg B Y k then -1 else if dg B Y k < dg B X k then 1 else cmpN (X % B ^ k) (Y % B ^ k):=by
 have hp : 0 < B ^ k:=Nat.pow_pos hB
 have h1:=Nat.mod_lt X hp
 have h2:=Nat.mod_lt Y hp
 unfold cmpN
 rw [zdc,zdc]
 generalize dg B X k = x
 generalize dg B Y k = y
 generalize X % B ^ k = r at *
 generalize Y % B ^ k = s at *
 generalize B ^ k = P at *
 by_cases hxy : x < y
 ·
  have : P * x + P ≤ P * y:=by rw [← Nat.mul_succ]; exact Nat.mul_le_mul_left _ hxy
  rw [if_pos (by omega),if_pos hxy]
 ·
  by_cases hyx : y < x
  ·
   have : P * y + P ≤ P * x:=by rw [← Nat.mul_succ]; exact Nat.mul_le_mul_left _ hyx
   rw [if_neg (by omega),if_pos (by omega),if_neg hxy,if_pos hyx]
  ·
   have hxy' : x = y:=by omega
   subst hxy'
   simp
theorem cmp_high (B X Y n m : Nat) (hB : 0 < B) (hX : X < B ^ n) (hY : Y < B ^ n) (hm : m < n) (h : ∀ j,m < j → j < n → dg B X j = dg B Y j) (hne : dg B X m ≠ dg B Y m) :
  cmpN X Y = if dg B X m < dg B Y m then -1 else 1:=by
 have e : X / B ^ (m + 1) = Y / B ^ (m + 1):=by
  have hn : B ^ n = B ^ (m + 1) * B ^ (n - (m + 1)):=by rw [← Nat.pow_add]; congr 1; omega
  refine zhd hB (n:=n - (m + 1)) ?_ ?_ fun i hi => ?_
  ·
   rw [Nat.div_lt_iff_lt_mul (Nat.pow_pos hB),Nat.mul_comm,← hn]; exact hX
  ·
   rw [Nat.div_lt_iff_lt_mul (Nat.pow_pos hB),Nat.mul_comm,← hn]; exact hY
  ·
   have:=h (m + 1 + i) (by omega) (by omega)
   unfold dg at *
   rwa [Nat.div_div_eq_div_mul,Nat.div_div_eq_div_mul,← Nat.pow_add]
 have c : cmpN X Y = cmpN (X % B ^ (m + 1)) (Y % B ^ (m + 1)):=by
  have hx:=Nat.mod_add_div X (B ^ (m + 1))
  have hy:=Nat.mod_add_div Y (B ^ (m + 1))
  rw [e] at hx
  unfold cmpN
  generalize B ^ (m + 1) * (Y / B ^ (m + 1)) = q at *
  generalize X % B ^ (m + 1) = r at *
  generalize Y % B ^ (m + 1) = s at *
  subst hx; subst hy
  simp
 rw [c,ziv B X Y m hB]
 by_cases hlt : dg B X m < dg B Y m
 ·
  rw [if_pos hlt,if_pos hlt]
 ·
  rw [if_neg hlt,if_neg hlt,if_pos (by omega)]
theorem compare_lt (x y : Int) (h : x < y) (w : World) : Calls Tryz.prog 93 #[vI vU x,vI vU y] w fun e w' => e = .returned (.int .i64 (-1)) ∧ w' = w:=by
 go_enter Tryz.func93,Tryz.ntmps93
 go_wp2
 go_ret
 exact ⟨rfl,rfl⟩
theorem compare_gt (x y : Int) (h : y < x) (w : World) : Calls Tryz.prog 93 #[vI vU x,vI vU y] w fun e w' => e = .returned (.int .i64 1) ∧ w' = w:=by
 go_enter Tryz.func93,Tryz.ntmps93
 go_wp2
 go_ret
 exact ⟨rfl,rfl⟩
theorem wd_cmp {X Y k : Nat} (h : dg w64 X k < dg w64 Y k) : wd X k < wd Y k:=by unfold wd; omega
theorem zgj (X Y : Nat) (hX : X < top) (hY : Y < top) (w : World) :
  Calls Tryz.prog 46 #[.agg #[vI vU (wd X 0),vI vU (wd X 1),vI vU (wd X 2),vI vU (wd X 3)],.agg #[vI vU (wd Y 0),vI vU (wd Y 1),vI vU (wd Y 2),vI vU (wd Y 3)]] w fun e w' => e = .returned (.int .i64 (cmpN X Y)) ∧ Below w.heap.size w w':=by
 go_enter Tryz.func46,Tryz.ntmps46
 go_wp2
 go_loopw [5] (fun i wr => ∃ k : Nat,k ≤ 4 ∧ i = .int .i64 ((k : Int) - 1) ∧ (∀ j,k ≤ j → j < 4 → dg w64 X j = dg w64 Y j) ∧ wr.rowIs w.heap.size 24 4 (fun j => .int .u64 (wd X j))
   ∧ wr.rowIs (w.heap.size + 1) 24 4 (fun j => .int .u64 (wd Y j)) ∧ Below w.heap.size w wr)
  (fun i _ => (intOf i + 1).toNat)
 case atStart => exact ⟨4,by omega,rfl,by intro j h1 h2; omega,(zag (n:=4) (by simp) rfl (arr4 fun j => .int .u64 (wd X j))).alloc _,zag (n:=4) (by simp) rfl (arr4 fun j => .int .u64 (wd Y j)),((Below.refl _ _).alloc (by simp) _).alloc (by simp) _⟩
 case round =>
  obtain ⟨k,hk,hi,hall,hRX,hRY,hbel⟩:=hrel
  have HALL:=veil hall
  clear hall
  cases k with
  | zero =>
   subst hi
   have hXY : X = Y:=zhd zbf hX hY fun j hj => HALL.out j (Nat.zero_le _) hj
   go_wp2
   go_ret
   have hc : cmpN X Y = 0:=by unfold cmpN; rw [if_neg (by omega),if_neg (by omega)]
   rw [hc]
   exact ⟨rfl,hbel⟩
  | succ m =>
   obtain rfl : _ = Value.int .i64 (m : Int):=hi.trans (by congr 1; omega)
   have hm : m < 4:=by omega
   go_wp2
   have c1:=hRX.cell hm
   have c2:=hRY.cell hm
   rcases Nat.lt_trichotomy (dg w64 X m) (dg w64 Y m) with h | h | h
   ·
    have hlt:=wd_cmp h
    have hne : (wd X m != wd Y m) = true:=by rw [bne_iff_ne]; omega
    have hc : cmpN X Y = -1:=by rw [cmp_high w64 X Y 4 m zbf hX hY hm (fun j h1 h2 => HALL.out j (by omega) h2) (by omega),if_pos h]
    have HC:=veil hc
    clear hc
    go_quiet (fail)
    go_wp2
    go_quiet ((go_at_call 93; exact quiet_more (compare_lt _ _ hlt _)))
    go_wp2
    go_ret
    rw [HC.out]
    exact ⟨rfl,zbm (zbm hbel _) _⟩
   ·
    have hne : (wd X m != wd Y m) = false:=by unfold wd; rw [h]; simp
    go_quiet (fail)
    go_wp2
    go_roundw
    case rel => exact ⟨m,by omega,by go_num,fun j h1 h2 => by
     by_cases e : j = m
     ·
      rw [e]; exact h
     ·
      exact HALL.out j (by omega) h2,zbx hRX _,zbx hRY _,zbm hbel _⟩
    case measure => simp [intOf]
   ·
    have hlt:=wd_cmp h
    have hne : (wd X m != wd Y m) = true:=by rw [bne_iff_ne]; omega
    have hc : cmpN X Y = 1:=by rw [cmp_high w64 X Y 4 m zbf hX hY hm (fun j h1 h2 => HALL.out j (by omega) h2) (by omega),if_neg (by omega)]
    have HC:=veil hc
    clear hc
    go_quiet (fail)
    go_wp2
    go_quiet ((go_at_call 93; exact quiet_more (compare_gt _ _ hlt _)))
    go_wp2
    go_ret
    rw [HC.out]
    exact ⟨rfl,zbm (zbm hbel _) _⟩
theorem ret_u2' {a b c d : Int} (h : a = b) (h2 : c = d) : Ending.returned (.tuple #[vI vU a,vI vU c]) = .returned (.tuple #[vI vU b,vI vU d]):=by rw [h,h2]
theorem gadd_core (x y c : Int) (hx : 0 ≤ x) (hx2 : x ≤ 18446744073709551615) (hy : 0 ≤ y) (hy2 : y ≤ 18446744073709551615) (hc : 0 ≤ c) (hc2 : c ≤ 1) (w : World) :
  Calls Tryz.prog 106 #[vI vU x,vI vU y,vI vU c] w fun e w' => e = .returned (.tuple #[vI vU ((x + y + c) % 18446744073709551616),vI vU ((x + y + c) / 18446744073709551616)]) ∧ w' = w:=by
 obtain ⟨s,hs⟩ : ∃ s,s = (x + y) % 18446744073709551616:=⟨_,rfl⟩
 obtain ⟨t,ht⟩ : ∃ t,t = (s + c) % 18446744073709551616:=⟨_,rfl⟩
 have e1 : IntKind.u64.wrap (x + y) = s:=by rw [IntKind.wrap_u64,hs]
 have e2 : IntKind.u64.wrap (s + c) = t:=by rw [IntKind.wrap_u64,ht]
 have et : t = (x + y + c) % 18446744073709551616:=by omega
 have E:=veil et
 by_cases h1 : s < x
 ·
  have h2 : ¬ t < s:=by omega
  have eo : (x + y + c) / 18446744073709551616 = 1:=by omega
  have EO:=veil eo
  clear et eo hs ht hx hx2 hy hy2 hc hc2
  go_enter Tryz.func106,Tryz.ntmps106
  go_wp2
  go_ret2
  rw [EO.out,← E.out]
  exact ⟨ret_u2' (by first | rfl | (rw [e1,e2]) | (rw [e2])) rfl,rfl⟩
 ·
  by_cases h2 : t < s
  ·
   have eo : (x + y + c) / 18446744073709551616 = 1:=by omega
   have EO:=veil eo
   clear et eo hs ht hx hx2 hy hy2 hc hc2
   go_enter Tryz.func106,Tryz.ntmps106
   go_wp2
   go_ret2
   rw [EO.out,← E.out]
   exact ⟨ret_u2' (by first | rfl | (rw [e1,e2]) | (rw [e2])) rfl,rfl⟩
  ·
   have eo : (x + y + c) / 18446744073709551616 = 0:=by omega
   have EO:=veil eo
   clear et eo hs ht hx hx2 hy hy2 hc hc2
   go_enter Tryz.func106,Tryz.ntmps106
   go_wp2
   go_ret2
   rw [EO.out,← E.out]
   exact ⟨ret_u2' (by first | rfl | (rw [e1,e2]) | (rw [e2])) rfl,rfl⟩
theorem gadd_at (X Y k : Nat) (w : World) :
  Calls Tryz.prog 106 #[vI vU (wd X k),vI vU (wd Y k),vI vU (cyI X Y k)] w fun e w' => e = .returned (.tuple #[vI vU (wd (X + Y) k),vI vU (cyI X Y (k + 1))]) ∧ w = w':=by
 have hc:=cy_le zbf X Y k
 have h:=gadd_core (wd X k) (wd Y k) (cyI X Y k) (wd_lo _ _) (wd_le _ _) (wd_lo _ _) (wd_le _ _) (by unfold cyI; omega) (by unfold cyI; omega) w
 have e1 : (wd X k + wd Y k + cyI X Y k) % 18446744073709551616 = wd (X + Y) k:=by
  unfold wd cyI; rw [dg_add zbf]; unfold w64; simp
 have e2 : (wd X k + wd Y k + cyI X Y k) / 18446744073709551616 = cyI X Y (k + 1):=by
  unfold wd cyI; rw [cy_succ zbf]; unfold w64; simp
 rw [e1,e2] at h
 exact h.mono fun _ _ ⟨a,b⟩ => ⟨a,b.symm⟩
theorem zen {X Z k : Nat} (_hk : k < 4) : ∀ i,i < 4 → (if i = k then Value.int .u64 (wd Z k) else Value.int .u64 (if i < k then wd Z i else wd X i)) = Value.int .u64 (if i < k + 1 then wd Z i else wd X i):=by
 intro i _
 by_cases h : i = k
 ·
  subst h; simp
 ·
  rw [if_neg h]; by_cases h2 : i < k
  ·
   rw [if_pos h2,if_pos (by omega)]
  ·
   rw [if_neg h2,if_neg (by omega)]
theorem cyI_one {X Y : Nat} (hX : X < top) (hY : Y < top) : (cyI X Y 4 == 1) = decide (top ≤ X + Y):=by
 unfold cyI
 rw [cy_top (n:=4) hX hY]
 show _ = decide (w64 ^ 4 ≤ X + Y)
 by_cases h : w64 ^ 4 ≤ X + Y <;> simp [h]
theorem plus_any (X Y : Nat) (hX : X < top) (hY : Y < top) (w : World) :
  Calls Tryz.prog 73 #[.agg #[vI vU (wd X 0),vI vU (wd X 1),vI vU (wd X 2),vI vU (wd X 3)],.agg #[vI vU (wd Y 0),vI vU (wd Y 1),vI vU (wd Y 2),vI vU (wd Y 3)]] w fun e w' => e = .returned (.tuple #[.agg #[vI vU (wd (X + Y) 0),vI vU (wd (X + Y) 1),vI vU (wd (X + Y) 2),vI vU (wd (X + Y) 3)],.bool (decide (top ≤ X + Y))]) ∧ Below w.heap.size w w':=by
 have HG:=veil (fun (k : Nat) (W : World) => gadd_at X Y k W)
 go_enter Tryz.func73,Tryz.ntmps73
 go_wp2
 go_loopw [6,7] (fun c i wr => ∃ k : Nat,k ≤ 4 ∧ i = .int .i64 k ∧ c = .int .u64 (cyI X Y k) ∧ wr.rowIs w.heap.size 24 4 (fun j => .int .u64 (if j < k then wd (X + Y) j else wd X j))
   ∧ wr.rowIs (w.heap.size + 1) 24 4 (fun j => .int .u64 (wd Y j)) ∧ wr.rowIs (w.heap.size + 1 + 1) 24 4 (fun _ => .int .u64 0) ∧ Below w.heap.size w wr)
  (fun _ i _ => 4 - (intOf i).toNat)
 case atStart => exact ⟨0,by omega,rfl,by simp [cyI,cy_zero],(((zag (n:=4) (by simp) rfl (arr4 fun j => .int .u64 (wd X j))).alloc _).alloc _).congr (fun j _ => by simp),(zag (n:=4) (by simp) rfl (arr4 fun j => .int .u64 (wd Y j))).alloc _,zag (n:=4) (by simp) rfl (arr4 fun _ => .int .u64 0),(((Below.refl _ _).alloc (by simp) _).alloc (by simp) _).alloc (by simp; omega) _⟩
 case round =>
  obtain ⟨k,hk,rfl,rfl,hRX,hRY,hRZ,hbel⟩:=hrel
  by_cases hlt : k < 4
  ·
   have c1:=hRX.cell hlt
   have c2:=hRY.cell hlt
   have f1:=hRX.frozen k
   rw [if_neg (by omega)] at c1
   go_wp2
   go_region_with (go_at_call 106; refine (HG.out _ _).mono ?_; rintro e w' ⟨rfl,rfl⟩)
   all_goals
    go_wp2
    go_roundw
    case rel => exact ⟨k + 1,by omega,by go_num,rfl,((hRX.set k _).congr (zen hlt)).drew,(zay hRY (by omega) _).drew,(zay hRZ (by omega) _).drew,(zas hbel (by omega) _).drew⟩
    case measure => simp [intOf]; omega
  ·
   obtain rfl : k = 4:=by omega
   obtain ⟨c0,c1,c2,c3⟩:=zae hRX
   obtain ⟨d0,d1,d2,d3⟩:=zae hRZ
   obtain ⟨f0,f1,f2,f3⟩:=zaj hRZ
   simp only [show (0 : Nat) < 4 from by omega,show (1 : Nat) < 4 from by omega,show (2 : Nat) < 4 from by omega,show (3 : Nat) < 4 from by omega,if_true] at c0 c1 c2 c3
   have hz:=cyI_one hX hY
   clear hRX hRY
   go_wp2
   refine bodyPost_ret (zcb rfl _ _ (w.heap.size + 1 + 1) 24 #[vI vU (wd (X + Y) 0),vI vU (wd (X + Y) 1),vI vU (wd (X + Y) 2),vI vU (wd (X + Y) 3)] (0,0) 4 22 rfl (blk4 (put4 hRZ fun j => .int .u64 (wd (X + Y) j))) Tryz.underlying24 (by kernel_rfl)) rfl ⟨?_,zap hbel (by omega) _ _ _ _⟩
   rfl
theorem zhs (X Y : Nat) (hX : X < top) (hY : Y < top) (w : World) :
  Calls Tryz.prog 73 #[.agg #[vI vU (wd X 0),vI vU (wd X 1),vI vU (wd X 2),vI vU (wd X 3)],.agg #[vI vU (wd Y 0),vI vU (wd Y 1),vI vU (wd Y 2),vI vU (wd Y 3)]] w fun e w' => e = .returned (.tuple #[.agg #[vI vU (wd ((X + Y) % top) 0),vI vU (wd ((X + Y) % top) 1),vI vU (wd ((X + Y) % top) 2),vI vU (wd ((X + Y) % top) 3)],.bool (decide (top ≤ X + Y))]) ∧ Below w.heap.size w w':=by
 rw [zeu _ 0 (by omega),zeu _ 1 (by omega),zeu _ 2 (by omega),zeu _ 3 (by omega)]
 exact plus_any X Y hX hY w
theorem lt_high {X Y m : Nat} (hX : X < top) (hY : Y < top) (hm : m < 4) (h : ∀ j,m < j → j < 4 → dg w64 X j = dg w64 Y j) (hne : dg w64 X m ≠ dg w64 Y m) : decide (X < Y) = decide (wd X m < wd Y m):=by
 have hc:=cmp_high w64 X Y 4 m zbf hX hY hm h hne
 unfold cmpN at hc
 unfold wd
 by_cases h1 : dg w64 X m < dg w64 Y m
 ·
  rw [if_pos h1] at hc
  by_cases h2 : X < Y
  ·
   simp [h1,h2]
  ·
   rw [if_neg h2] at hc; split at hc <;> omega
 ·
  rw [if_neg h1] at hc
  by_cases h2 : X < Y
  ·
   rw [if_pos h2] at hc; omega
  ·
   simp [h1,h2]
theorem less_calls (X Y : Nat) (hX : X < top) (hY : Y < top) (w : World) :
  Calls Tryz.prog 67 #[.agg #[vI vU (wd X 0),vI vU (wd X 1),vI vU (wd X 2),vI vU (wd X 3)],.agg #[vI vU (wd Y 0),vI vU (wd Y 1),vI vU (wd Y 2),vI vU (wd Y 3)]] w fun e w' => e = .returned (.bool (decide (X < Y))) ∧ Below w.heap.size w w':=by
 go_enter Tryz.func67,Tryz.ntmps67
 go_wp2
 go_loopw [5] (fun i wr => ∃ k : Nat,k ≤ 4 ∧ i = .int .i64 ((k : Int) - 1) ∧ (∀ j,k ≤ j → j < 4 → dg w64 X j = dg w64 Y j) ∧ wr.rowIs w.heap.size 24 4 (fun j => .int .u64 (wd X j))
   ∧ wr.rowIs (w.heap.size + 1) 24 4 (fun j => .int .u64 (wd Y j)) ∧ Below w.heap.size w wr)
  (fun i _ => (intOf i + 1).toNat)
 case atStart => exact ⟨4,by omega,rfl,by intro j h1 h2; omega,(zag (n:=4) (by simp) rfl (arr4 fun j => .int .u64 (wd X j))).alloc _,zag (n:=4) (by simp) rfl (arr4 fun j => .int .u64 (wd Y j)),((Below.refl _ _).alloc (by simp) _).alloc (by simp) _⟩
 case round =>
  obtain ⟨k,hk,hi,hall,hRX,hRY,hbel⟩:=hrel
  have HALL:=veil hall
  clear hall
  cases k with
  | zero =>
   subst hi
   have hXY : X = Y:=zhd zbf hX hY fun j hj => HALL.out j (Nat.zero_le _) hj
   have HXY:=veil hXY
   clear hXY
   go_wp2
   go_ret
   rw [show decide (X < Y) = false by rw [HXY.out]; simp]
   exact ⟨rfl,hbel⟩
  | succ m =>
   obtain rfl : _ = Value.int .i64 (m : Int):=hi.trans (by congr 1; omega)
   have hm : m < 4:=by omega
   go_wp2
   have c1:=hRX.cell hm
   have c2:=hRY.cell hm
   by_cases h : dg w64 X m = dg w64 Y m
   ·
    have hne : (wd X m != wd Y m) = false:=by unfold wd; rw [h]; simp
    go_quiet (fail)
    go_wp2
    go_roundw
    case rel => exact ⟨m,by omega,by go_num,fun j h1 h2 => by
     by_cases e : j = m
     ·
      rw [e]; exact h
     ·
      exact HALL.out j (by omega) h2,zbx hRX _,zbx hRY _,zbm hbel _⟩
    case measure => simp [intOf]
   ·
    have hne : (wd X m != wd Y m) = true:=by rw [bne_iff_ne]; unfold wd; omega
    have HC:=veil (lt_high hX hY hm (fun j h1 h2 => HALL.out j (by omega) h2) h)
    clear h
    go_quiet (fail)
    go_wp2
    go_quiet (fail)
    go_wp2
    go_ret
    rw [HC.out]
    exact ⟨rfl,zbm (zbm hbel _) _⟩
end Go.Proofs.YtmfjigcdhijkjaaGreatDoor
