/-
  Of Math Sva Nwa T0 K0 Mem Row Made Aut Au1 AutB.
-/
import Derived.WalkKit
import Derived.Test.YtbfkecfcolcclaaGreatDoorRows
import Derived.Deep.OwnRows
import Derived.Deep.Draws
import Derived.Laws.Rows
import Derived.Deep.QuietTactic
import Derived.Deep.MidRow
import Derived.Deep.WholeRow
import Derived.ChangeKeysEq
import Derived.OrdersHeld
import Derived.StillTail
import Derived.Deep.RegionHeld3
import Derived.Scope
set_option maxRecDepth 1000000
set_option maxHeartbeats 20000000
namespace Go.Proofs.YtbfkecfcolcclaaGreatDoor
def dg (B n i : Nat) : Nat:=n / B ^ i % B
def cy (B X Y i : Nat) : Nat:=(X % B ^ i + Y % B ^ i) / B ^ i
def bw (B X Y i : Nat) : Nat:=if X % B ^ i < Y % B ^ i then 1 else 0
theorem dg_lt {B : Nat} (hB : 0 < B) (n i : Nat) : dg B n i < B:=Nat.mod_lt _ hB
theorem zar (B n i : Nat) : n % B ^ (i + 1) = n % B ^ i + B ^ i * dg B n i:=by
 rw [Nat.pow_succ,Nat.mod_mul,dg]
theorem cy_zero (B X Y : Nat) : cy B X Y 0 = 0:=by simp [cy,Nat.mod_one]
theorem cy_le {B : Nat} (hB : 0 < B) (X Y i : Nat) : cy B X Y i ≤ 1:=by
 have hp : 0 < B ^ i:=Nat.pow_pos hB
 have h1:=Nat.mod_lt X hp
 have h2:=Nat.mod_lt Y hp
 unfold cy
 have : (X % B ^ i + Y % B ^ i) / B ^ i < 2:=(Nat.div_lt_iff_lt_mul hp).2 (by omega)
 omega
theorem cy_succ {B : Nat} (hB : 0 < B) (X Y i : Nat) : cy B X Y (i + 1) = (dg B X i + dg B Y i + cy B X Y i) / B:=by
 have hp : 0 < B ^ i:=Nat.pow_pos hB
 unfold cy
 rw [zar,zar]
 rw [show X % B ^ i + B ^ i * dg B X i + (Y % B ^ i + B ^ i * dg B Y i) = (X % B ^ i + Y % B ^ i) + B ^ i * (dg B X i + dg B Y i) by rw [Nat.mul_add]; omega]
 rw [Nat.pow_succ,← Nat.div_div_eq_div_mul,Nat.add_mul_div_left _ _ hp]
 congr 1
 omega
theorem dg_add {B : Nat} (hB : 0 < B) (X Y i : Nat) : dg B (X + Y) i = (dg B X i + dg B Y i + cy B X Y i) % B:=by
 have hp : 0 < B ^ i:=Nat.pow_pos hB
 have hX : X = X % B ^ i + B ^ i * (X / B ^ i):=(Nat.mod_add_div _ _).symm
 have hY : Y = Y % B ^ i + B ^ i * (Y / B ^ i):=(Nat.mod_add_div _ _).symm
 have hs : (X + Y) / B ^ i = (X % B ^ i + Y % B ^ i) / B ^ i + (X / B ^ i + Y / B ^ i):=by
  conv => lhs; rw [hX,hY]
  rw [show X % B ^ i + B ^ i * (X / B ^ i) + (Y % B ^ i + B ^ i * (Y / B ^ i)) = (X % B ^ i + Y % B ^ i) + B ^ i * (X / B ^ i + Y / B ^ i) by rw [Nat.mul_add]; omega]
  rw [Nat.add_mul_div_left _ _ hp]
 unfold dg cy
 rw [hs,show (X % B ^ i + Y % B ^ i) / B ^ i + (X / B ^ i + Y / B ^ i) = X / B ^ i + Y / B ^ i + (X % B ^ i + Y % B ^ i) / B ^ i by omega]
 rw [Nat.add_mod,Nat.add_mod (X / B ^ i) (Y / B ^ i)]
 conv => rhs; rw [Nat.add_mod]
theorem cy_top {B : Nat} {X Y n : Nat} (hX : X < B ^ n) (hY : Y < B ^ n) : cy B X Y n = if B ^ n ≤ X + Y then 1 else 0:=by
 unfold cy
 rw [Nat.mod_eq_of_lt hX,Nat.mod_eq_of_lt hY]
 have hp : 0 < B ^ n:=by omega
 split
 ·
  apply Nat.le_antisymm
  ·
   have:=(Nat.div_lt_iff_lt_mul hp (x:=X + Y) (y:=2)).2 (by omega)
   omega
  ·
   exact (Nat.le_div_iff_mul_le hp).2 (by omega)
 ·
  exact Nat.div_eq_of_lt (by omega)
theorem zcb {B : Nat} (n m i : Nat) (h : i < m) : dg B (n % B ^ m) i = dg B n i:=by
 unfold dg
 obtain ⟨d,rfl⟩ : ∃ d,m = i + (d + 1):=⟨m - i - 1,by omega⟩
 rw [Nat.pow_add,Nat.mod_mul_right_div_self,Nat.mod_mod_of_dvd _ (by rw [Nat.pow_succ]; exact Nat.dvd_mul_left _ _)]
theorem eq_of_dg {B : Nat} (hB : 0 < B) : ∀ (n : Nat) {X Y : Nat},(∀ i,i < n → dg B X i = dg B Y i) → X % B ^ n = Y % B ^ n
 | 0,X,Y,_ => by simp [Nat.mod_one]
 | n + 1,X,Y,h => by rw [zar,zar,eq_of_dg hB n (fun i hi => h i (by omega)),h n (by omega)]
theorem eq_of_dg_lt {B : Nat} (hB : 0 < B) {n X Y : Nat} (hX : X < B ^ n) (hY : Y < B ^ n) (h : ∀ i,i < n → dg B X i = dg B Y i) : X = Y:=by
 have:=eq_of_dg hB n h
 rwa [Nat.mod_eq_of_lt hX,Nat.mod_eq_of_lt hY] at this
theorem bw_zero (B X Y : Nat) : bw B X Y 0 = 0:=by simp [bw,Nat.mod_one]
theorem bw_le (B X Y i : Nat) : bw B X Y i ≤ 1:=by unfold bw; split <;> omega
theorem bw_succ {B : Nat} (hB : 0 < B) (X Y i : Nat) : bw B X Y (i + 1) = if dg B X i < dg B Y i + bw B X Y i then 1 else 0:=by
 have hp : 0 < B ^ i:=Nat.pow_pos hB
 have h1:=Nat.mod_lt X hp
 have h2:=Nat.mod_lt Y hp
 unfold bw
 rw [zar,zar]
 generalize dg B X i = x
 generalize dg B Y i = y
 generalize X % B ^ i = r at *
 generalize Y % B ^ i = s at *
 generalize B ^ i = P at *
 by_cases hxy : x < y
 ·
  have : P * x + P ≤ P * y:=by rw [← Nat.mul_succ]; exact Nat.mul_le_mul_left _ hxy
  rw [if_pos (by omega)]; split <;> rw [if_pos (by omega)]
 ·
  by_cases hyx : y < x
  ·
   have : P * y + P ≤ P * x:=by rw [← Nat.mul_succ]; exact Nat.mul_le_mul_left _ hyx
   rw [if_neg (by omega)]; split <;> rw [if_neg (by omega)]
  ·
   have hxy' : x = y:=by omega
   subst hxy'
   by_cases hrs : r < s
   ·
    rw [if_pos (by omega),if_pos hrs,if_pos (by omega)]
   ·
    rw [if_neg (by omega),if_neg hrs,if_neg (by omega)]
theorem dg_sub {B : Nat} (hB : 0 < B) (X Y n i : Nat) (hi : i < n) (hY : Y ≤ B ^ n) : dg B (X + B ^ n - Y) i = (dg B X i + B - dg B Y i - bw B X Y i) % B:=by
 obtain ⟨D,hD⟩ : ∃ D,X + B ^ n - Y = D:=⟨_,rfl⟩
 rw [hD]
 have hDY : D + Y = X + B ^ n:=by omega
 -- the digit of the sum D + Y
 have h1:=dg_add hB D Y i
 have h2 : dg B (D + Y) i = dg B X i:=by
  rw [hDY]
  unfold dg
  obtain ⟨d,rfl⟩ : ∃ d,n = i + (d + 1):=⟨n - i - 1,by omega⟩
  rw [Nat.pow_add,Nat.add_mul_div_left _ _ (Nat.pow_pos hB),Nat.pow_succ,Nat.add_mul_mod_self_right]
 have h3 : cy B D Y i = bw B X Y i:=by
  have hp : 0 < B ^ i:=Nat.pow_pos hB
  have e : (D + Y) % B ^ i = X % B ^ i:=by
   rw [hDY]
   obtain ⟨d,rfl⟩ : ∃ d,n = i + (d + 1):=⟨n - i - 1,by omega⟩
   rw [Nat.pow_add,Nat.add_mul_mod_self_left]
  rw [Nat.add_mod] at e
  have hd:=Nat.mod_lt D hp
  have hy:=Nat.mod_lt Y hp
  unfold cy bw
  rw [← e]
  generalize D % B ^ i = r at *
  generalize Y % B ^ i = s at *
  by_cases h : r + s < B ^ i
  ·
   rw [Nat.mod_eq_of_lt h,Nat.div_eq_of_lt h,if_neg (by omega)]
  ·
   rw [Nat.mod_eq_sub_mod (by omega),Nat.mod_eq_of_lt (by omega),if_pos (by omega)]
   apply Nat.le_antisymm
   ·
    have:=(Nat.div_lt_iff_lt_mul hp (x:=r + s) (y:=2)).2 (by omega)
    omega
   ·
    exact (Nat.le_div_iff_mul_le hp).2 (by omega)
 rw [h2,h3] at h1
 have b1:=dg_lt hB D i
 have b2:=dg_lt hB Y i
 have b3:=bw_le B X Y i
 have b4:=dg_lt hB X i
 generalize dg B D i = d at *
 generalize dg B Y i = y at *
 generalize dg B X i = x at *
 generalize bw B X Y i = b at *
 by_cases h : d + y + b < B
 ·
  rw [Nat.mod_eq_of_lt h] at h1
  rw [Nat.mod_eq_sub_mod (by omega),Nat.mod_eq_of_lt (by omega)]
  omega
 ·
  rw [Nat.mod_eq_sub_mod (by omega),Nat.mod_eq_of_lt (by omega)] at h1
  rw [Nat.mod_eq_of_lt (by omega)]
  omega
theorem bw_top {B X Y n : Nat} (hX : X < B ^ n) (hY : Y < B ^ n) : bw B X Y n = if X < Y then 1 else 0:=by
 unfold bw
 rw [Nat.mod_eq_of_lt hX,Nat.mod_eq_of_lt hY]
/-! ### words of 64 bits,parts of 16 -/
def w64 : Nat:=18446744073709551616
def w16 : Nat:=65536
def top : Nat:=w64 ^ 4
theorem zaj : 0 < w64:=by unfold w64; omega
theorem zbd : 0 < top:=Nat.pow_pos zaj
def wd (n i : Nat) : Int:=(dg w64 n i : Nat)
theorem wd_lo (n i : Nat) : 0 ≤ wd n i:=Int.natCast_nonneg _
theorem wd_lt (n i : Nat) : wd n i < 18446744073709551616:=by
 have:=dg_lt zaj n i
 unfold wd; unfold w64 at *; omega
theorem wd_le (n i : Nat) : wd n i ≤ 18446744073709551615:=by have:=wd_lt n i; omega
theorem zce (n i : Nat) (h : i < 4) : wd (n % top) i = wd n i:=by
 unfold wd top
 rw [zcb n 4 i h]
def wk (X i k : Nat) : Int:=((dg w64 X i / w16 ^ k : Nat) : Int)
end Go.Proofs.YtbfkecfcolcclaaGreatDoor
namespace Go.Proofs.YtbfkecfcolcclaaGreatDoor
structure Sv where
 wk : Int
 fr : Int
 to : Int
 ex : List Int
 ec : List Int
theorem d_get {l : List Int} {i : Nat} (h : i < l.length) : l[i]? = some (l.getD i 0):=by rw [List.getD_eq_getElem?_getD,List.getElem?_eq_getElem h]; rfl
theorem d_mem {l : List Int} {i : Nat} (h : i < l.length) : l.getD i 0 ∈ l:=List.mem_of_getElem? (d_get h)
theorem d_idx {l : List Int} {x : Int} (h : x ∈ l) : ∃ i,i < l.length ∧ l.getD i 0 = x:=by
 obtain ⟨i,hi,rfl⟩:=List.mem_iff_getElem.1 h
 exact ⟨i,hi,by rw [List.getD_eq_getElem?_getD,List.getElem?_eq_getElem hi]; rfl⟩
theorem d_not {l : List Int} {x : Int} (h : ∀ j,j < l.length → l.getD j 0 ≠ x) : decide (x ∈ l) = false:=decide_eq_false fun hm => by
 obtain ⟨i,hi,e⟩:=d_idx hm
 exact h i hi e
theorem d_is {l : List Int} {x : Int} {i : Nat} (h : i < l.length) (e : l.getD i 0 = x) : decide (x ∈ l) = true:=decide_eq_true (by rw [← e]; exact d_mem h)
def okD (l : List Int) (i : Nat) : Prop:=0 ≤ l.getD i 0 ∧ l.getD i 0 ≤ 1048576 ∧ (0 < i → l.getD (i - 1) 0 < l.getD i 0)
instance (l : List Int) (i : Nat) : Decidable (okD l i):=by unfold okD; infer_instance
def daysB (l : List Int) : Bool:=decide (l.length ≤ 100 ∧ ∀ i,i < l.length → okD l i)
theorem daysB_false {l : List Int} {j : Nat} (hj : j < l.length) (h : ¬ okD l j) : daysB l = false:=decide_eq_false fun hh => h (hh.2 j hj)
theorem daysB_len {l : List Int} (h : ∀ j,j < l.length → okD l j) : daysB l = decide (l.length ≤ 100):=by
 unfold daysB
 by_cases hc : l.length ≤ 100
 ·
  rw [decide_eq_true hc,decide_eq_true ⟨hc,h⟩]
 ·
  rw [decide_eq_false hc,decide_eq_false fun hh => hc hh.1]
theorem daysB_ok {l : List Int} (h : daysB l = true) {j : Nat} (hj : j < l.length) : okD l j:=(of_decide_eq_true h).2 j hj
theorem zbt {l : List Int} (h : daysB l = true) : l.length ≤ 100:=(of_decide_eq_true h).1
theorem zdh {l : List Int} (h : ¬ l.length ≤ 100) : daysB l = false:=decide_eq_false fun hh => h hh.1
def farB (a b : List Int) : Bool:=decide (∀ i,i < a.length → a.getD i 0 ∉ b)
theorem farB_false {a b : List Int} {i : Nat} (hi : i < a.length) (h : a.getD i 0 ∈ b) : farB a b = false:=decide_eq_false fun hh => hh i hi h
theorem farB_true {a b : List Int} (h : ∀ i,i < a.length → a.getD i 0 ∉ b) : farB a b = true:=decide_eq_true h
def boundB (s : Sv) : Bool:=decide (0 ≤ s.wk ∧ s.wk ≤ 127 ∧ 0 ≤ s.fr ∧ s.fr ≤ s.to ∧ s.to ≤ 1048576)
def mayV (s : Sv) : Bool:=daysB s.ex && daysB s.ec && farB s.ex s.ec && boundB s
def runsV (s : Sv) (d : Int) : Bool:=decide (d ∈ s.ex) || (!decide (d ∈ s.ec) && decide (s.fr ≤ d ∧ d < s.to ∧ s.wk / 2 ^ (d % 7).toNat % 2 = 1))
theorem zby {s : Sv} (h : mayV s = true) : daysB s.ex = true ∧ daysB s.ec = true ∧ farB s.ex s.ec = true ∧ 0 ≤ s.wk ∧ s.wk ≤ 127 ∧ 0 ≤ s.fr ∧ s.fr ≤ s.to ∧ s.to ≤ 1048576:=by
 unfold mayV at h
 simp only [Bool.and_eq_true] at h
 exact ⟨h.1.1.1,h.1.1.2,h.1.2,of_decide_eq_true h.2⟩
/-! ### the document's example -/
/-! ### bits -/
theorem zci (k : Nat) : (0 : Int) ≤ 2 ^ k:=Int.pow_nonneg (by decide)
theorem half_step (w : Int) (h : 0 ≤ w) (k : Nat) : (w / 2 ^ k).tdiv 2 = w / 2 ^ (k + 1):=by
 have h1 : 0 ≤ w / 2 ^ k:=Int.ediv_nonneg h (zci k)
 rw [Int.tdiv_eq_ediv_of_nonneg h1,Int.ediv_ediv_of_nonneg (zci k),Int.pow_succ]
theorem zan (w : Int) (h : 0 ≤ w) (k : Nat) : 0 ≤ w / 2 ^ k:=Int.ediv_nonneg h (zci k)
theorem rem_one (x : Int) : (x % 2 == 1) = decide (x % 2 = 1):=by
 by_cases c : x % 2 = 1
 ·
  rw [c]; rfl
 ·
  rw [decide_eq_false c]
  simpa using c
end Go.Proofs.YtbfkecfcolcclaaGreatDoor
namespace Go.Proofs.YtbfkecfcolcclaaGreatDoor
structure Cn where
 sv : Int
 fr : Int
 dp : Int
 tu : Int
 ar : Int
structure Nw where
 ss : List Sv
 cs : List Cn
def noSv : Sv:=⟨0,0,0,[],[]⟩
def stopB (x : Int) : Bool:=decide (0 ≤ x) && decide (x < 32)
def okC (k : Nat) (c : Cn) : Prop:=0 ≤ c.sv ∧ c.sv < (k : Int) ∧ stopB c.fr = true ∧ stopB c.tu = true ∧ 0 ≤ c.dp ∧ c.dp ≤ 1439 ∧ c.dp < c.ar ∧ c.ar ≤ 2879
instance (k : Nat) (c : Cn) : Decidable (okC k c):=by unfold okC; infer_instance
section
variable {ss : List Sv} {cs : List Cn} {fr at_ till s m : Int}
end
section
variable {n : Nw} {fr at_ tu till t u : Int} {is is' : Bool}
end
/-! ### the document's example -/
end Go.Proofs.YtbfkecfcolcclaaGreatDoor
namespace Go.Proofs.YtbfkecfcolcclaaGreatDoor
abbrev Fd:=Int × List Nat
def tgF (fs : List Fd) (i : Nat) : Int:=(fs.getD i (0,[])).1
def bsF (fs : List Fd) (i : Nat) : List Nat:=(fs.getD i (0,[])).2
def okF (fs : List Fd) (i : Nat) : Prop:=1 ≤ tgF fs i ∧ tgF fs i ≤ 255 ∧ (bsF fs i).length ≤ 65535 ∧ (0 < i → tgF fs (i - 1) < tgF fs i)
instance (fs : List Fd) (i : Nat) : Decidable (okF fs i):=by unfold okF; exact inferInstance
def mayFs (fs : List Fd) : Bool:=decide (fs.length ≤ 64 ∧ ∀ i,i < fs.length → okF fs i)
def Byt (bs : List Nat) : Prop:=∀ b ∈ bs,b < 256
theorem Byt.getD {bs : List Nat} (h : Byt bs) (i : Nat) : bs.getD i 0 < 256:=by
 rw [List.getD_eq_getElem?_getD]
 by_cases hi : i < bs.length
 ·
  rw [List.getElem?_eq_getElem hi]; exact h _ (List.getElem_mem hi)
 ·
  rw [List.getElem?_eq_none (by omega)]; decide
theorem Byt.drop {a : List Nat} (h : Byt a) (n : Nat) : Byt (a.drop n):=fun x hx => h x (List.mem_of_mem_drop hx)
theorem Byt.take {a : List Nat} (h : Byt a) (n : Nat) : Byt (a.take n):=fun x hx => h x (List.mem_of_mem_take hx)
def BytF (fs : List Fd) : Prop:=∀ f ∈ fs,Byt f.2
/-! ### a field's bytes -/
/-! ### the fields of bytes -/
/-! ### what was put is got as it was -/
/-! ### numbers -/
def valB (bs : List Nat) : Nat:=bs.foldl (fun n b => 256 * n + b) 0
def ofB (bs : List Nat) : Int:=if bs.length = 8 ∧ bs.getD 0 0 ≤ 127 then (valB bs : Nat) else -1
end Go.Proofs.YtbfkecfcolcclaaGreatDoor
namespace Go.Proofs.YtbfkecfcolcclaaGreatDoor
/-! ### numbers as bytes,the highest first -/
/-! ### signatures as bytes -/
/-! ### fields of numbers -/
def numsOk (fs : List Fd) (many : Nat) : Prop:=fs.length = many ∧ ∀ i,i < many → tgF fs i = (i : Int) + 1 ∧ 0 ≤ ofB (bsF fs i)
instance (fs : List Fd) (many : Nat) : Decidable (numsOk fs many):=by unfold numsOk; exact inferInstance
end Go.Proofs.YtbfkecfcolcclaaGreatDoor
namespace Go.Proofs.YtbfkecfcolcclaaGreatDoor
open Go.RowKit
open Go.Value renaming int → vI
open Go.IntKind renaming u64 → vU
open Go.Act renaming put → aP
open List renaming setIfInBounds_toArray → lA, set_cons_zero → lZ, set_cons_succ → lS
theorem veil {p : Prop} (h : p) : Hid p:=h
section
variable {w w' : World} {b b' t n i B : Nat} {f g : Nat → Value} {cs : Array Value}
theorem zac (hb : b = w.heap.size) (hn : cs.size = n) (h : ∀ i,i < n → cs[i]? = some (f i)) : (w.alloc (.cells cs t)).rowIs b t n f:=by
 subst hb; subst hn
 exact World.rowIs_alloc w cs t f h
theorem zak (h : w.rowIs b t n f) (hne : b ≠ b') (v : Value) : (w.setCell ⟨b',i,none⟩ v).rowIs b t n f:=h.setOther hne v
theorem zab (h : w.rowIs b t n f) (hb : Below B w w') (hlt : b < B) : w'.rowIs b t n f:=h.of_block (hb.block b hlt)
theorem zba (h : w.rowIs b t n f) (k : Nat) : (w.drewN k).rowIs b t n f:=h
theorem zae {a : World} (h : Below B a w) (hb : B ≤ b) (v : Value) : Below B a (w.setCell ⟨b,i,none⟩ v):=h.setCell hb v
theorem zau {a : World} (h : Below B a w) (k : Nat) : Below B a (w.drewN k):=⟨h.os,h.tape,h.output,h.size,h.block⟩
theorem arr4 (f : Nat → Value) : ∀ i,i < 4 → (#[f 0,f 1,f 2,f 3] : Array Value)[i]? = some (f i)
 | 0,_ => rfl
 | 1,_ => rfl
 | 2,_ => rfl
 | 3,_ => rfl
 | n + 4,h => by omega
theorem arr8 (f : Nat → Value) : ∀ i,i < 8 → (#[f 0,f 1,f 2,f 3,f 4,f 5,f 6,f 7] : Array Value)[i]? = some (f i)
 | 0,_ => rfl
 | 1,_ => rfl
 | 2,_ => rfl
 | 3,_ => rfl
 | 4,_ => rfl
 | 5,_ => rfl
 | 6,_ => rfl
 | 7,_ => rfl
 | n + 8,h => by omega
theorem zad (h : w.rowIs b t 4 f) : w.cell? ⟨b,0,none⟩ = some (f 0) ∧ w.cell? ⟨b,1,none⟩ = some (f 1) ∧ w.cell? ⟨b,2,none⟩ = some (f 2) ∧ w.cell? ⟨b,3,none⟩ = some (f 3) :=
 ⟨h.cell (by omega),h.cell (by omega),h.cell (by omega),h.cell (by omega)⟩
theorem row_c8 (h : w.rowIs b t 8 f) : w.cell? ⟨b,0,none⟩ = some (f 0) ∧ w.cell? ⟨b,1,none⟩ = some (f 1) ∧ w.cell? ⟨b,2,none⟩ = some (f 2) ∧ w.cell? ⟨b,3,none⟩ = some (f 3) ∧
  w.cell? ⟨b,4,none⟩ = some (f 4) ∧ w.cell? ⟨b,5,none⟩ = some (f 5) ∧ w.cell? ⟨b,6,none⟩ = some (f 6) ∧ w.cell? ⟨b,7,none⟩ = some (f 7) :=
 ⟨h.cell (by omega),h.cell (by omega),h.cell (by omega),h.cell (by omega),h.cell (by omega),h.cell (by omega),h.cell (by omega),h.cell (by omega)⟩
theorem zap (h : w.rowIs b t n f) : w.frozen? ⟨b,0,none⟩ = false ∧ w.frozen? ⟨b,1,none⟩ = false ∧ w.frozen? ⟨b,2,none⟩ = false ∧ w.frozen? ⟨b,3,none⟩ = false :=
 ⟨h.frozen _,h.frozen _,h.frozen _,h.frozen _⟩
theorem row_f8 (h : w.rowIs b t n f) : w.frozen? ⟨b,0,none⟩ = false ∧ w.frozen? ⟨b,1,none⟩ = false ∧ w.frozen? ⟨b,2,none⟩ = false ∧ w.frozen? ⟨b,3,none⟩ = false ∧
  w.frozen? ⟨b,4,none⟩ = false ∧ w.frozen? ⟨b,5,none⟩ = false ∧ w.frozen? ⟨b,6,none⟩ = false ∧ w.frozen? ⟨b,7,none⟩ = false :=
 ⟨h.frozen _,h.frozen _,h.frozen _,h.frozen _,h.frozen _,h.frozen _,h.frozen _,h.frozen _⟩
theorem arr_eq {c : Array Value} : ∀ {l : List Value},c.size = l.length → (∀ i,i < l.length → c[i]? = l[i]?) → c = l.toArray:=by
 intro l hs h
 apply Array.ext_getElem?
 intro i
 by_cases hi : i < l.length
 ·
  rw [h i hi]; simp
 ·
  rw [Array.getElem?_eq_none (by omega),Array.getElem?_eq_none (by simp; omega)]
theorem blk4 (h : w.rowIs b t 4 f) : w.heap[b]? = some (.cells #[f 0,f 1,f 2,f 3] t (0,0)):=by
 obtain ⟨c,hb,hn,hc⟩:=h
 rw [hb,arr_eq (c:=c) (l:=[f 0,f 1,f 2,f 3]) (by simpa using hn) (fun i hi => by
  have hi4 : i < 4:=by simpa using hi
  rw [hc i hi4]
  exact (by simpa using arr4 f i hi4 : [f 0,f 1,f 2,f 3][i]? = some (f i)).symm)]
theorem blk8 (h : w.rowIs b t 8 f) : w.heap[b]? = some (.cells #[f 0,f 1,f 2,f 3,f 4,f 5,f 6,f 7] t (0,0)):=by
 obtain ⟨c,hb,hn,hc⟩:=h
 rw [hb,arr_eq (c:=c) (l:=[f 0,f 1,f 2,f 3,f 4,f 5,f 6,f 7]) (by simpa using hn) (fun i hi => by
  have hi8 : i < 8:=by simpa using hi
  rw [hc i hi8]
  exact (by simpa using arr8 f i hi8 : [f 0,f 1,f 2,f 3,f 4,f 5,f 6,f 7][i]? = some (f i)).symm)]
theorem put4 (h : w.rowIs b t 4 f) (g : Nat → Value) : ((((w.setCell ⟨b,0,none⟩ (g 0)).setCell ⟨b,1,none⟩ (g 1)).setCell ⟨b,2,none⟩ (g 2)).setCell ⟨b,3,none⟩ (g 3)).rowIs b t 4 g :=
 ((((h.set 0 (g 0)).set 1 (g 1)).set 2 (g 2)).set 3 (g 3)).congr fun i hi => by
  have : i = 0 ∨ i = 1 ∨ i = 2 ∨ i = 3:=by omega
  rcases this with rfl | rfl | rfl | rfl <;> rfl
theorem put8 (h : w.rowIs b t 8 f) (g : Nat → Value) : ((((((((w.setCell ⟨b,0,none⟩ (g 0)).setCell ⟨b,1,none⟩ (g 1)).setCell ⟨b,2,none⟩ (g 2)).setCell ⟨b,3,none⟩ (g 3)).setCell ⟨b,4,none⟩ (g 4)).setCell ⟨b,5,none⟩ (g 5)).setCell ⟨b,6,none⟩ (g 6)).setCell ⟨b,7,none⟩ (g 7)).rowIs b t 8 g :=
 ((((((((h.set 0 (g 0)).set 1 (g 1)).set 2 (g 2)).set 3 (g 3)).set 4 (g 4)).set 5 (g 5)).set 6 (g 6)).set 7 (g 7)).congr fun i hi => by
  have : i = 0 ∨ i = 1 ∨ i = 2 ∨ i = 3 ∨ i = 4 ∨ i = 5 ∨ i = 6 ∨ i = 7:=by omega
  rcases this with rfl | rfl | rfl | rfl | rfl | rfl | rfl | rfl <;> rfl
theorem row_far4 (h : w.rowIs b t n f) (hne : b ≠ b') (v0 v1 v2 v3 : Value) : ((((w.setCell ⟨b',0,none⟩ v0).setCell ⟨b',1,none⟩ v1).setCell ⟨b',2,none⟩ v2).setCell ⟨b',3,none⟩ v3).rowIs b t n f :=
 zak (zak (zak (zak h hne _) hne _) hne _) hne _
theorem zai {a : World} (h : Below B a w) (hb : B ≤ b) (v0 v1 v2 v3 : Value) : Below B a ((((w.setCell ⟨b,0,none⟩ v0).setCell ⟨b,1,none⟩ v1).setCell ⟨b,2,none⟩ v2).setCell ⟨b,3,none⟩ v3) :=
 zae (zae (zae (zae h hb _) hb _) hb _) hb _
theorem below_put8 {a : World} (h : Below B a w) (hb : B ≤ b) (v0 v1 v2 v3 v4 v5 v6 v7 : Value) :
  Below B a ((((((((w.setCell ⟨b,0,none⟩ v0).setCell ⟨b,1,none⟩ v1).setCell ⟨b,2,none⟩ v2).setCell ⟨b,3,none⟩ v3).setCell ⟨b,4,none⟩ v4).setCell ⟨b,5,none⟩ v5).setCell ⟨b,6,none⟩ v6).setCell ⟨b,7,none⟩ v7) :=
 zae (zae (zae (zae (zae (zae (zae (zae h hb _) hb _) hb _) hb _) hb _) hb _) hb _) hb _
end
theorem row_step {X : Nat} {k : Nat} (hk : k < 4) : ∀ i,i < 4 → (if i = k then Value.int .u64 (wd X k) else Value.int .u64 (if i < k then wd X i else 0)) = Value.int .u64 (if i < k + 1 then wd X i else 0):=by
 intro i _
 by_cases h : i = k
 ·
  subst h; simp
 ·
  rw [if_neg h]; by_cases h2 : i < k
  ·
   rw [if_pos h2,if_pos (by omega)]
  ·
   rw [if_neg h2,if_neg (by omega)]
section
variable {w w' : World} {g t n B : Nat} {f h : Nat → Value}
end
theorem quiet_more {P : Program} {fid : FuncId} {args : Array Value} {w : World} {a n : Nat} {v : Value} (h : Calls P fid args (w.drewN (a + n)) fun e w' => e = .returned v ∧ w' = w.drewN (a + n)) :
  Calls P fid args (w.drewN (a + n)) fun e w' => e = .returned v ∧ ∃ m,w' = w.drewN (a + m) :=
 h.mono fun _ _ ⟨he,hm⟩ => ⟨he,n,hm⟩
theorem zbk {P : Program} {fn : Func} {p s : Tmp} {ty : TypeId} (h : fn.results = #[.cell p ty,.tmp s]) (tmps : Array Value) (w : World) (g : Nat) (t : TypeId) (cs : Array Value) (fr : Nat × Nat) (n : Nat) (e : TypeId)
  (hp : tmps.getD p undef = .pointer (some ⟨g,0,none⟩)) (hg : w.heap[g]? = some (.cells cs t fr)) (hu : P.underlying ty = some (.array n e)) (hi : (P.info? ty).map (·.size) = some cs.size) :
  (results fn tmps).run P w = .ok (.tuple #[.agg cs,tmps.getD s undef]) w:=by
 have hp' : tmps[p]?.getD undef = .pointer (some ⟨g,0,none⟩):=by simpa using hp
 simp [results,h,hp',asAddr,run_loadVar_row w g t ty cs fr _ hg hu rfl hi]
def arrOf (n : Nat) (f : Nat → Value) : Array Value:=((List.range n).map f).toArray
theorem arrOf_size (n : Nat) (f : Nat → Value) : (arrOf n f).size = n:=by simp [arrOf]
theorem arrOf_get {n : Nat} (f : Nat → Value) {i : Nat} (hi : i < n) : (arrOf n f)[i]? = some (f i):=by simp [arrOf,hi]
theorem eq_arrOf {n : Nat} {f : Nat → Value} {cs : Array Value} (hn : cs.size = n) (h : ∀ i,i < n → cs[i]? = some (f i)) : cs = arrOf n f:=by
 apply Array.ext_getElem?
 intro i
 by_cases hi : i < n
 ·
  rw [h i hi,arrOf_get f hi]
 ·
  rw [Array.getElem?_eq_none (by omega),Array.getElem?_eq_none (by rw [arrOf_size]; omega)]
section
variable {w w' : World} {b t n B : Nat} {f : Nat → Value}
theorem blkOf (h : w.rowIs b t n f) : w.heap[b]? = some (.cells (arrOf n f) t (0,0)):=by
 obtain ⟨c,hb,hn,hc⟩:=h
 rw [hb,eq_arrOf hn hc]
theorem zdc (w : World) {b b' : Nat} (a : Array Value) (hne : b ≠ b') : (w.setRow b' a).heap[b]? = w.heap[b]?:=by
 simp only [World.setRow,Array.getElem?_modify]
 rw [if_neg (by omega)]
end
theorem zaa (n : Nat) {P : Program} {ops : Array Oper} {Q : Exit → Act → World → Prop} {rest : List Oper} {a : Act} {w : World} {op : Op} {ty : TypeId} {pos : String} {af : Array Edge} {g : Option (Tmp × Bool)}
  (h : wpList P ops Q (⟨some n,op,ty,pos,af,g⟩ :: rest) a w) : wpList P ops Q (⟨some n,op,ty,pos,af,g⟩ :: rest) a w:=h
theorem zbf {P : Program} {ops : Array Oper} {Q : Exit → Act → World → Prop} {rest : List Oper} {a : Act} {w : World} {op : Op} {ty : TypeId} {pos : String} {af : Array Edge} {g : Option (Tmp × Bool)}
  (h : wpList P ops Q (⟨none,op,ty,pos,af,g⟩ :: rest) a w) : wpList P ops Q (⟨none,op,ty,pos,af,g⟩ :: rest) a w:=h
theorem below_setRow {B b : Nat} {a w : World} (h : Below B a w) (hb : B ≤ b) (cs : Array Value) : Below B a (w.setRow b cs) :=
 ⟨h.os,h.tape,h.output,by simpa [World.setRow] using h.size,fun k hk => (zdc w cs (by omega)).trans (h.block k hk)⟩
abbrev But (r : Nat) (w w' : World) : Prop:=w.grownBy w' (some r)
section
variable {w w' w'' : World} {r : Nat}
theorem But.refl (r : Nat) (w : World) : But r w w:=⟨rfl,rfl,rfl,Nat.le_refl _,fun _ _ _ => rfl⟩
theorem But.trans (h : But r w w') (k : But r w' w'') : But r w w'' :=
 ⟨k.os.trans h.os,k.tape.trans h.tape,k.output.trans h.output,Nat.le_trans h.size k.size,fun i hi hne => (k.block i (Nat.lt_of_lt_of_le hi h.size) hne).trans (h.block i hi hne)⟩
theorem But.below (h : But r w w') (k : Below w'.heap.size w' w'') : But r w w'' :=
 h.trans ⟨k.os,k.tape,k.output,k.size,fun i hi _ => k.block i hi⟩
theorem But.set (h : But r w w') (i : Nat) (v : Value) : But r w (w'.setCell ⟨r,i,none⟩ v) :=
 h.trans ⟨rfl,rfl,rfl,by simp [World.setCell],fun k _ hne => Below.heap_setCell _ _ _ _ (by simpa using hne)⟩
theorem But.alloc (h : But r w w') (o : Obj) : But r w (w'.alloc o):=h.below ((Below.refl _ _).alloc (Nat.le_refl _) o)
theorem But.drew (h : But r w w') : But r w w'.drew:=⟨h.os,h.tape,h.output,h.size,h.block⟩
theorem But.drewN (h : But r w w') (k : Nat) : But r w (w'.drewN k):=⟨h.os,h.tape,h.output,h.size,h.block⟩
theorem But.far {b i : Nat} (h : But r w w') (hb : w.heap.size ≤ b) (v : Value) : But r w (w'.setCell ⟨b,i,none⟩ v) :=
 ⟨h.os,h.tape,h.output,by simpa [World.setCell] using h.size,fun k hk hne => (Below.heap_setCell _ _ _ _ (by show k ≠ b; omega)).trans (h.block k hk hne)⟩
theorem But.new {B : Nat} (h : But r w w') (hr : B ≤ r) (hB : B ≤ w.heap.size) : Below B w w' :=
 ⟨h.os,h.tape,h.output,h.size,fun k hk => h.block k (by omega) (by simp; omega)⟩
end
/-! ### steps of a region that draws its order -/
/-! ### what such a region keeps: a range of cells,and all blocks but one -/
theorem keepD {w5 W : World} {g gR : Nat} {L : List Value} (h : W.rangeAt g 0 L ∧ But gR w5 W) : W.drew.rangeAt g 0 L ∧ But gR w5 W.drew:=⟨h.1,h.2.drew⟩
theorem zdm {b t n : Nat} : ∀ (vs : List Value) (o : Nat) (w : World) (f : Nat → Value),w.rowIs b t n f → (w.setCells b o vs).rowIs b t n (fun j => if o ≤ j ∧ j < o + vs.length then vs.getD (j - o) undef else f j)
 | [],o,w,f,h => h.congr fun j _ => by rw [if_neg (by simp only [List.length_nil]; omega)]
 | v :: r,o,w,f,h => (zdm r (o + 1) _ _ (h.set o v)).congr fun j _ => by
  simp only [List.length_cons]
  by_cases h1 : j = o
  ·
   subst h1
   rw [if_neg (by omega),if_pos rfl,if_pos (by omega),Nat.sub_self]; rfl
  ·
   rw [if_neg h1]
   by_cases h2 : o + 1 ≤ j ∧ j < o + 1 + r.length
   ·
    rw [if_pos h2,if_pos (by omega),show j - o = (j - (o + 1)) + 1 by omega]; rfl
   ·
    rw [if_neg h2,if_neg (by omega)]
theorem But.setCells {r : Nat} {w0 : World} : ∀ (vs : List Value) (o : Nat) (w : World),But r w0 w → But r w0 (w.setCells r o vs)
 | [],_,_,h => h
 | v :: l,o,_,h => But.setCells l (o + 1) _ (h.set o v)
/-! ### what a region keeps that stores into one block in the end -/
section
variable {r t n : Nat} {wz W W' : World}
end
def Ext (w w' : World) : Prop:=Below w.heap.size w w'
theorem Ext.refl (w : World) : Ext w w:=Below.refl _ _
theorem Ext.trans {a b c : World} (h : Ext a b) (k : Ext b c) : Ext a c:=Below.trans h (Below.mono k h.size)
theorem Ext.drew (w : World) : Ext w w.drew:=Below.drew (Below.refl _ _)
theorem Ext.alloc (w : World) (o : Obj) : Ext w (w.alloc o):=(Below.refl _ _).alloc (Nat.le_refl _) o
theorem Ext.block {a b : World} (h : Ext a b) {g : Nat} {o : Obj} (hg : a.heap[g]? = some o) : b.heap[g]? = some o:=by
 rw [Below.block h g (Array.getElem?_eq_some_iff.1 hg).1,hg]
section
variable {P : Program} {ops : Array Oper} {Q : Exit → Act → World → Prop} {md : Region.Mode}
def madeUpon (P : Program) (w : World) (v : Value) : Result Next → Prop
 | .ok (.value u) w' => u = v ∧ Ext w w'
 | .ok .skip w' => v = undef ∧ Ext w w'
 | .ok (.enter f args) w' => Calls P f args w' fun e w'' => e = .returned v ∧ Ext w w''
 | _ => False
def Made (P : Program) (o : Oper) (v : Value) (a : Act) (w : World) : Prop:=∀ W,Ext w W → madeUpon P W v ((execOp a.eval o).run P W)
theorem Made.ext {o : Oper} {v : Value} {a : Act} {w w' : World} (h : Made P o v a w) (k : Ext w w') : Made P o v a w':=fun W hW => h W (k.trans hW)
def YieldsE (P : Program) (ops : Array Oper) (o : Oper) (v : Value) (a : Act) (w : World) : Prop :=
 (Region.wanted o (yielded ops a.tmps) = true ∧ Made P o v a w) ∨ (Region.wanted o (yielded ops a.tmps) = false ∧ v = undef)
theorem YieldsE.of_same {o : Oper} {v : Value} {a a' : Act} {w w' : World} (hy : YieldsE P ops o v a w) (k : Ext w w') (he : execOp a'.eval o = execOp a.eval o)
  (hw : Region.wanted o (yielded ops a'.tmps) = Region.wanted o (yielded ops a.tmps)) : YieldsE P ops o v a' w':=by
 unfold YieldsE at *
 rw [hw]
 refine hy.imp (fun ⟨h1,h2⟩ => ⟨h1,?_⟩) id
 unfold Made at *
 rw [he]
 exact Made.ext h2 k
theorem Made.wp {o : Oper} {v : Value} {a : Act} {w W : World} (h : Made P o v a w) (k : Ext w W) {K : Act → World → Prop} (hK : ∀ W',Ext W W' → K (a.put o.dst v) W') : o.wp P a W K Q:=by
 have h1:=h W k
 unfold Oper.wp
 generalize (execOp a.eval o).run P W = r at *
 cases r with
 | ok n w' =>
  cases n <;> simp only [madeUpon] at h1 <;> simp only [Oper.upon]
  case value u => obtain ⟨rfl,e⟩:=h1; exact hK _ e
  case skip => obtain ⟨rfl,e⟩:=h1; exact hK _ e
  case enter f args => exact h1.mono fun e w'' ⟨he,hw⟩ => by subst he; exact hK _ hw
 | halt x w' => simp only [madeUpon] at h1
theorem YieldsE.wpOp {i : Nat} {o : Oper} {v : Value} {a : Act} {w W : World} (hi : ops[i]? = some o) (hy : YieldsE P ops o v a w) (k : Ext w W)
  {K : Act → World → Prop} (h : ∀ W',Ext W W' → K (a.put o.dst v) W') : wpOp P ops Q i K a W:=by
 unfold Go.wpOp
 simp only [hi]
 rcases hy with ⟨hw,hv⟩ | ⟨hw,rfl⟩
 ·
  simp only [hw,if_true]; exact .inl (hv.wp k h)
 ·
  simp only [hw,Bool.false_eq_true,if_false]; exact h W (Ext.refl W)
theorem wpOp_putE {j : Nat} {oi oj : Oper} {v : Value} (hj : ops[j]? = some oj) (hap : oi.apart ops oj = true)
  (hsi : ∀ cs b,oi.op ≠ .select cs b) (hsj : ∀ cs b,oj.op ≠ .select cs b)
  (hQ : ∀ c a w,Q (.panic c) (a.put oi.dst v) w → Q (.panic c) a w) {K : Act → World → Prop} {a : Act} {w : World}
  (hK : ∀ a' w',K a' w' → Ext w w') (hy : YieldsE P ops oi v a w) (h : wpOp P ops Q j K (a.put oi.dst v) w) :
  wpOp P ops Q j (fun a' w' => YieldsE P ops oi v a' w' ∧ K (a'.put oi.dst v) w') a w:=by
 obtain ⟨h1,h2,h3⟩:=Oper.apart_spec hap
 have keep : ∀ (a' : Act) (u : Value) (w' : World),YieldsE P ops oi v a' w → Ext w w' → YieldsE P ops oi v (a'.put oj.dst u) w':=fun a' u w' hy k =>
  hy.of_same k (execOp_put oi hsi a' oj.dst u h3) (wanted_put oi a' oj.dst u h3)
 have keepD : ∀ d,YieldsE P ops oi v { a with defers:=d :: a.defers } w:=fun d => hy.of_same (Ext.refl w) rfl rfl
 unfold wpOp at *
 simp only [hj] at *
 rw [wanted_put oj a oi.dst v h1] at h
 split
 ·
  rename_i hw
  simp only [hw,if_true] at h
  rcases h with h | ⟨hasks,hlets⟩
  case inr => exact .inr ⟨by unfold Oper.asks at *; rw [execOp_put oj hsj a oi.dst v h1] at hasks; exact hasks,hlets⟩
  refine .inl ?_
  unfold Oper.wp at *
  rw [execOp_put oj hsj a oi.dst v h1] at h
  generalize (execOp a.eval oj).run P w = r at *
  have fin : ∀ u w',K ((a.put oi.dst v).put oj.dst u) w' → YieldsE P ops oi v (a.put oj.dst u) w' ∧ K ((a.put oj.dst u).put oi.dst v) w':=fun u w' hk =>
   ⟨keep a u w' hy (hK _ _ hk),by rw [← Act.put_comm a v u h2]; exact hk⟩
  cases r with
  | ok n w' =>
   cases n <;> simp only [Oper.upon] at h ⊢
   case value u => exact fin u w' h
   case skip => exact fin undef w' h
   case defer d =>
    refine ⟨keep _ _ w' (keepD d) (hK _ _ h),?_⟩
    rw [← Act.put_comm _ v undef h2,← Act.put_defers]
    exact h
   case enter f args =>
    refine Calls.mono h fun e w'' he => ?_
    cases e with
    | returned u => exact fin u w'' he
    | panicked c => exact hQ _ _ _ he
    | outgrown => exact he
   case row row args => exact Rows.mono h fun u w'' he => fin u w'' he
  | halt x w' =>
   cases x <;> simp only [Oper.upon] at h ⊢
   case panic u => exact hQ _ _ _ h
 ·
  rename_i hw
  simp only [hw] at h
  exact ⟨keep a undef w hy (Ext.refl w),by rw [← Act.put_comm a v undef h2]; exact h⟩
def wpG (P : Program) (md : Region.Mode) (ops : Array Oper) (Q : Exit → Act → World → Prop) (n : Nat) : Nat → Array Bool → Act → World → Prop
 | 0,listed,a,w => Region.ready md ops listed = [] ∧ ∀ W,Ext w W → Q .normal a W
 | fuel + 1,listed,a,w =>
  (Region.ready md ops listed = [] → ∀ W,Ext w W → Q .normal a W) ∧
  ∀ i ∈ Region.ready md ops listed,∀ W,Ext w W → wpOp P ops Q i (fun a' W' => (i < n → Ext W W') ∧ wpG P md ops Q n fuel (listed.setIfInBounds i true) a' W') a W
theorem wpG.ext {n : Nat} : ∀ {f : Nat} {listed : Array Bool} {a : Act} {w w' : World},wpG P md ops Q n f listed a w → Ext w w' → wpG P md ops Q n f listed a w'
 | 0,_,_,_,_,h,k => ⟨h.1,fun W hW => h.2 W (k.trans hW)⟩
 | _ + 1,_,_,_,_,h,k => ⟨fun h0 W hW => h.1 h0 W (k.trans hW),fun i hi W hW => h.2 i hi W (k.trans hW)⟩
theorem zbv {n : Nat} : ∀ (f : Nat) (listed : Array Bool) (a : Act) (w : World),wpG P md ops Q n f listed a w → wpAny P md ops Q f listed a w
 | 0,_,_,w,h => ⟨h.1,h.2 w (Ext.refl w)⟩
 | f + 1,_,_,w,h => ⟨fun h0 => h.1 h0 w (Ext.refl w),fun i hi => wpOp_mono (fun a' w' hk => zbv f _ a' w' hk.2) (h.2 i hi w (Ext.refl w))⟩
def Closed (md : Region.Mode) (ops : Array Oper) (listed : Array Bool) : Prop :=
 listed.size = ops.size ∧ ∀ j oj,ops[j]? = some oj → listed.getD j false = true → ∀ e ∈ oj.after,Region.binds md e = true → listed.getD e.on false = true
theorem Closed.set {i : Nat} {listed : Array Bool} (inv : Closed md ops listed) (hi : i ∈ Region.ready md ops listed) : Closed md ops (listed.setIfInBounds i true):=by
 obtain ⟨_,oi,hoi,hall⟩:=mem_ready.1 hi
 refine ⟨by simp [inv.1],fun j oj hj hl e he hb => ?_⟩
 by_cases hij : i = j
 ·
  subst hij
  have : oj = oi:=Option.some.inj (hj.symm.trans hoi)
  subst this
  exact getD_set_true (hall e he hb)
 ·
  rw [getD_set_ne false hij] at hl
  exact getD_set_true (inv.2 j oj hj hl e he hb)
def lateB (md : Region.Mode) (ops : Array Oper) (m n : Nat) : Bool :=
 ((List.range (m - 1)).all fun i => (List.range m).any fun j => decide (i < j) && Region.waitsFor md ops j i) &&
 ((List.range ops.size).all fun t => decide (t < n) || Region.waitsFor md ops t (m - 1))
theorem late_one {m n : Nat} {listed : Array Bool} (hB : lateB md ops m n = true) (inv : Closed md ops listed) :
  ∀ (d i : Nat),m - 1 - i = d → i < m → listed.getD i false = false → listed.getD (m - 1) false = false:=by
 intro d
 induction d using Nat.strongRecOn with
 | _ d ih =>
  intro i hd hi hun
  by_cases hl : i = m - 1
  ·
   subst hl; exact hun
  ·
   simp only [lateB,Bool.and_eq_true] at hB
   have h1:=List.all_eq_true.1 hB.1 i (List.mem_range.2 (by omega))
   obtain ⟨j,hj,hj2⟩:=List.any_eq_true.1 h1
   simp only [Bool.and_eq_true,decide_eq_true_eq] at hj2
   have hjm:=List.mem_range.1 hj
   obtain ⟨oj,hoj,e,he,hb,hon⟩:=Region.waitsFor_spec hj2.2
   refine ih (m - 1 - j) (by omega) j rfl hjm ?_
   cases h2 : listed.getD j false with
   | false => rfl
   | true =>
    have h3:=inv.2 j oj hoj h2 e he hb
    rw [hon,hun] at h3
    cases h3
theorem late_spec {m n i : Nat} {listed : Array Bool} (hB : lateB md ops m n = true) (inv : Closed md ops listed) (hi : i < m) (hun : listed.getD i false = false)
  {t : Nat} (ht : t ∈ Region.ready md ops listed) : t < n:=by
 have h0:=late_one hB inv _ i rfl hi hun
 simp only [lateB,Bool.and_eq_true] at hB
 obtain ⟨_,ot,hot,hall⟩:=mem_ready.1 ht
 have h1:=List.all_eq_true.1 hB.2 t (List.mem_range.2 (Array.getElem?_eq_some_iff.1 hot).1)
 simp only [Bool.or_eq_true,decide_eq_true_eq] at h1
 rcases h1 with h1 | h1
 ·
  exact h1
 ·
  obtain ⟨o',ho',e,he,hb,hon⟩:=Region.waitsFor_spec h1
  have : o' = ot:=Option.some.inj (ho'.symm.trans hot)
  subst this
  have h2:=hall e he hb
  rw [hon,h0] at h2
  cases h2
theorem G_first {i m n : Nat} {oi : Oper} {v : Value} (hi : ops[i]? = some oi) (hsel : ∀ (j : Nat) (o : Oper) cs b,ops[j]? = some o → o.op ≠ .select cs b)
  (hQ : ∀ c a w,Q (.panic c) (a.put oi.dst v) w → Q (.panic c) a w) (hB : lateB md ops m n = true) (him : i < m) :
  ∀ (fuel : Nat) (listed : Array Bool) (a : Act) (w : World),Closed md ops listed →
   (∀ j oj,ops[j]? = some oj → j ≠ i → listed.getD j true = false → (∀ e ∈ oj.after,Region.binds md e = true → e.on ≠ i) → oi.apart ops oj = true) →
   i ∈ Region.ready md ops listed → YieldsE P ops oi v a w →
   wpG P md ops Q n fuel (listed.setIfInBounds i true) (a.put oi.dst v) w → wpG P md ops Q n (fuel + 1) listed a w:=by
 intro fuel
 induction fuel with
 | zero =>
  intro listed a w _ _ hr hy H
  refine ⟨fun h => (by rw [h] at hr; cases hr),fun j hj W hW => ?_⟩
  by_cases hji : j = i
  ·
   subst hji; exact hy.wpOp hi hW fun W' hW' => ⟨fun _ => hW',H.ext (hW.trans hW')⟩
  ·
   have:=ready_mono hj hji
   rw [H.1] at this
   cases this
 | succ fuel ih =>
  intro listed a w inv hfree hr hy H
  refine ⟨fun h => (by rw [h] at hr; cases hr),fun j hj W hW => ?_⟩
  by_cases hji : j = i
  ·
   subst hji; exact hy.wpOp hi hW fun W' hW' => ⟨fun _ => hW',H.ext (hW.trans hW')⟩
  ·
   have hun:=getD_both (mem_ready.1 hr).1
   have hjn : j < n:=late_spec hB inv him hun hj
   have h1:=H.2 j (ready_mono hj hji) W hW
   obtain ⟨hjun,oj,hoj,hall⟩:=mem_ready.1 hj
   have hnot : ∀ e ∈ oj.after,Region.binds md e = true → e.on ≠ i:=fun e he hb heq => by
    have h2:=hall e he hb
    rw [heq,hun] at h2
    cases h2
   have h2:=wpOp_putE hoj (hfree j oj hoj hji hjun hnot) (fun cs b => hsel i oi cs b hi) (fun cs b => hsel j oj cs b hoj) hQ (fun a' w' hk => hk.1 hjn)
    (hy.of_same hW rfl rfl) h1
   have hfree' : ∀ k ok,ops[k]? = some ok → k ≠ i → (listed.setIfInBounds j true).getD k true = false →
     (∀ e ∈ ok.after,Region.binds md e = true → e.on ≠ i) → oi.apart ops ok = true:=fun k ok hk hki hunk hno => by
    refine hfree k ok hk hki ?_ hno
    by_cases hjk : j = k
    ·
     subst hjk; exact hjun
    ·
     rw [getD_set_ne true hjk] at hunk; exact hunk
   refine wpOp_mono (fun a' w' h3 => ⟨h3.2.1,ih (listed.setIfInBounds j true) a' w' (inv.set hj) hfree' (ready_mono hr (Ne.symm hji)) h3.1 ?_⟩) h2
   rw [Array.setIfInBounds_comm _ _ hji]
   exact h3.2.2
/-! ### the walk in the text's order -/
def wpMk (P : Program) (ops : Array Oper) (w : World) (R : Act → Prop) : List Oper → Act → Prop
 | [],a => R a
 | o :: rest,a => ∃ v,YieldsE P ops o v a w ∧ wpMk P ops w R rest (a.put o.dst v)
def lexTo (md : Region.Mode) (ops : Array Oper) : Nat → Nat → Array Bool → Bool
 | 0,_,_ => true
 | f + 1,k,listed => (Region.ready md ops listed).contains k && Region.free md ops listed k && lexTo md ops f (k + 1) (listed.setIfInBounds k true)
def marked : Nat → Nat → Array Bool → Array Bool
 | 0,_,listed => listed
 | f + 1,k,listed => marked f (k + 1) (listed.setIfInBounds k true)
theorem G_lex {m n g : Nat} (hsel : Region.noSelect ops = true) (hQ : ∀ (o : Oper) v c a w,Q (.panic c) (a.put o.dst v) w → Q (.panic c) a w) (hB : lateB md ops m n = true) {w : World} {R : Act → Prop} {L : Array Bool}
  (hR : ∀ a,R a → wpG P md ops Q n g L a w) : ∀ (l : List Oper) (k : Nat) (listed : Array Bool) (a : Act),(∀ j,j < l.length → l[j]? = ops[k + j]?) → k + l.length = m → Closed md ops listed →
  lexTo md ops l.length k listed = true → marked l.length k listed = L → wpMk P ops w R l a → wpG P md ops Q n (l.length + g) listed a w
 | [],k,listed,a,_,_,_,_,hL,h => by
  have hL' : listed = L:=hL
  subst hL'
  simpa using hR a h
 | o :: l,k,listed,a,hl,hk,inv,hX,hL,h => by
  have h0 : ops[k]? = some o:=by simpa using (hl 0 (by simp)).symm
  simp only [List.length_cons,lexTo,Bool.and_eq_true] at hX
  obtain ⟨⟨hr,hf⟩,hX'⟩:=hX
  have hkm : k < m:=by simp only [List.length_cons] at hk; omega
  have hr' : k ∈ Region.ready md ops listed:=by simpa using hr
  obtain ⟨v,hy,hK⟩:=h
  rw [List.length_cons,show l.length + 1 + g = (l.length + g) + 1 by omega]
  exact G_first h0 (Region.noSelect_spec hsel) (hQ o v) hB hkm _ listed a w inv (Region.free_spec h0 hf) hr' hy
   (G_lex hsel hQ hB hR l (k + 1) _ _ (fun j hj => by have:=hl (j + 1) (by simp; omega); simpa [Nat.add_assoc,Nat.add_comm 1 j] using this) (by simp only [List.length_cons] at hk; omega) (inv.set hr') hX' hL hK)
def madeB (l : List Oper) (m n : Nat) : Bool :=
 Region.noSelect l.toArray && decide (m ≤ l.length) && lateB .any l.toArray m n && lexTo .any l.toArray m 0 (Array.replicate l.length false)
def Rest (P : Program) (l : List Oper) (Q : Exit → Act → World → Prop) (m n : Nat) (a : Act) (w : World) : Prop :=
 wpG P .any l.toArray Q n (l.length - m) (marked m 0 (Array.replicate l.length false)) a w
theorem wp_region_made {id m : Nat} (n : Nat) {a : Act} {w : World} {l : List Oper} (hm : P.follows .mixedOrders = true) (hB : madeB l m n = true)
  (hQ : ∀ (o : Oper) v c a w,Q (.panic c) (a.put o.dst v) w → Q (.panic c) a w)
  (h : wpMk P l.toArray w (fun a' => Rest P l Q m n a' w) (l.take m) a) : (Code.region id l.toArray true).wp P Q a w:=by
 simp only [madeB,Bool.and_eq_true,decide_eq_true_eq] at hB
 obtain ⟨⟨⟨hsel,hml⟩,hlate⟩,hlex⟩:=hB
 have htl : (l.take m).length = m:=by simp; omega
 have inv0 : Closed .any l.toArray (Array.replicate l.length false) :=
  ⟨by simp,fun j oj _ hl => (by rw [getD_replicate_false] at hl; cases hl)⟩
 have H:=G_lex (P:=P) (md:=.any) (Q:=Q) (g:=l.length - m) (w:=w) hsel hQ hlate (R:=fun a' => Rest P l Q m n a' w) (L:=marked m 0 (Array.replicate l.length false)) (fun a' h => h) (l.take m) 0 (Array.replicate l.length false) a (fun j hj => by
  have hj' : j < m:=by rw [htl] at hj; exact hj
  simp [hj']) (by simpa using htl) inv0 (by rw [htl]; exact hlex) (by rw [htl]) h
 rw [htl,show m + (l.length - m) = l.length by omega] at H
 refine wp_region_any hm (zbv (n:=n) _ _ _ _ ?_)
 have:=wpG.ext H (Ext.drew w)
 simpa using this
/-! ### what stands behind them -/
theorem zbu {i : Nat} {o : Oper} {K : Act → World → Prop} {a : Act} {w : World} (ho : ops[i]? = some o) (hg : o.guard = none) (h : o.wp P a w K Q) : wpOp P ops Q i K a w :=
 wpOp_step ho fun _ hK => by rw [if_pos (by simp [Region.wanted,hg])]; exact Oper.wp_mono hK h
theorem wp_alloc_made {o : Oper} {a : Act} {w : World} {K : Act → World → Prop} {ty : TypeId} {zs : Array Value} {t : TypeId} (ho : o.op = .alloc ty)
  (hz : ∀ W,(Instr.alloc ty true (.tuple #[])).run P W = .ok (.pointer (some ⟨W.heap.size,0,none⟩)) (W.alloc (.cells zs t)))
  (h : K (a.put o.dst (.pointer (some ⟨w.heap.size,0,none⟩))) (w.alloc (.cells zs t))) : o.wp P a w K Q:=by
 unfold Oper.wp execOp
 simp only [ho,Sem.run_bind,hz w,Result.andThen_ok,Sem.run_pure]
 exact h
theorem zag (w : World) (o : Obj) : (w.alloc o).heap[w.heap.size]? = some o:=by
 show (w.heap.push o)[w.heap.size]? = _
 simp
theorem zbb {w W : World} {g : Nat} (h : Ext w W) (hg : w.heap.size ≤ g) (cs : Array Value) : Ext w (W.setRow g cs):=below_setRow h hg cs
abbrev ptrTo (g : Nat) : Value:=.pointer (some ⟨g,0,none⟩)
section
variable {l : List Oper} {m : Nat} {a : Act} {w : World} {ty t : TypeId} {zs cells old : Array Value} {d : Tmp} {y x : Operand} {r : Nat}
end
/-! ### a region in its own order -/
section
variable {l : List Oper} {m : Nat} {a : Act} {w : World} {ty t : TypeId} {zs cells old : Array Value} {d : Tmp} {y x : Operand} {r : Nat}
theorem zcr {rest : List Oper} (oa os : Oper) (hoa2 : oa.op = .alloc ty) (ho : os.op = .store ty (.tmp d) y) (hda : oa.dst = some d) (hd : os.dst = none) (hga : oa.guard = none) (hg : os.guard = none)
  (hz : ∀ W,(Instr.alloc ty true (.tuple #[])).run P W = .ok (ptrTo W.heap.size) (W.alloc (.cells zs t)))
  (hx : ∀ g,(a.put (some d) (ptrTo g)).eval (.tmp d) = ptrTo g) (hy : ∀ g,(a.put (some d) (ptrTo g)).eval y = .agg cells) (hi : (P.info? ty).map (·.size) = some cells.size) (hold : zs.size = cells.size) (h1 : cells.all (·.oneCell') = true)
  (h : ∀ g W,w.heap.size ≤ g → W.heap[g]? = some (.cells cells t (0,0)) → Ext w W → wpList P ops Q rest (a.put (some d) (ptrTo g)) W) : wpList P ops Q (oa :: os :: rest) a w:=by
 refine wpList_plain hga fun K hK => wp_alloc_made hoa2 hz (hK _ _ ?_)
 refine wpList_plain hg fun K hK => ?_
 rw [hda]
 refine wp_store_row ty _ y ho w.heap.size cells (hx _) (hy _) t zs (zag _ _) hi hold h1 (hK _ _ ?_)
 rw [hd]
 exact h w.heap.size _ (Nat.le_refl _) (setRow_heap _ _ zs cells t (0,0) (zag _ _)) (zbb (Ext.alloc _ _) (Nat.le_refl _) cells)
end
/-! ### the walk's frame,kept from the rest -/
theorem mk_mono {w : World} {R R' : Act → Prop} (h : ∀ a,R a → R' a) : ∀ {l : List Oper} {a : Act},wpMk P ops w R l a → wpMk P ops w R' l a
 | [],_,hh => h _ hh
 | _ :: _,_,⟨v,hy,hK⟩ => ⟨v,hy,mk_mono h hK⟩
/-! ### operations -/
section
variable {o : Oper} {a : Act} {w : World}
theorem zbr {v : Value} (h : ∀ W,Ext w W → (execOp a.eval o).run P W = .ok (.value v) W) : Made P o v a w:=fun W hW => by
 rw [h W hW]
 exact ⟨rfl,Ext.refl W⟩
theorem made_call {v : Value} {f : FuncId} {args : Array Value} (h : ∀ W,(execOp a.eval o).run P W = .ok (.enter f args) W) (hc : ∀ W,Ext w W → Calls P f args W fun e W' => e = .returned v ∧ Ext W W') : Made P o v a w:=fun W hW => by
 rw [h W]
 exact hc W hW
theorem made_load {ty : TypeId} {x : Operand} {g off t : Nat} {C : Array Value} {cs : List Value} {fr : Nat × Nat} {d : TypeDesc} (ho : o.op = .load ty x) (hx : a.eval x = .pointer (some ⟨g,off,none⟩)) (hb : w.heap[g]? = some (.cells C t fr))
  (hcs : (C.toList.drop off).take cs.length = cs) (hu : P.underlying ty = some d) (hd : d.isRow = true) (hi : (P.info? ty).map (·.size) = some cs.length) : Made P o (.agg cs.toArray) a w:=zbr fun W hW => by
 have hr : W.rangeAt g off cs:=fun j v hv => by
  rw [cell_of_row W g (off + j) C t fr (hW.block hb)]
  have hj : j < cs.length:=(List.getElem?_eq_some_iff.1 hv).1
  rw [← hcs,List.getElem?_take_of_lt hj,List.getElem?_drop] at hv
  simpa using hv
 unfold execOp
 simp only [ho,hx,Instr.loadAt,Instr.sureAddr,Sem.run_bind,Sem.run_pure,Result.andThen_ok,run_loadVar_mid W g off ty cs d hr hu hd hi]
theorem made_load1 {ty : TypeId} {x : Operand} {g off t : Nat} {C : Array Value} {v : Value} {fr : Nat × Nat} (ho : o.op = .load ty x) (hx : a.eval x = .pointer (some ⟨g,off,none⟩)) (hb : w.heap[g]? = some (.cells C t fr))
  (hcs : C[off]? = some v) (hn : ∀ W,(isAgg ty).run P W = .ok false W) : Made P o v a w:=zbr fun W hW => by
 have hr : W.cell? ⟨g,off,none⟩ = some v:=by rw [cell_of_row W g off C t fr (hW.block hb),hcs]
 have hl : (load ⟨g,off,none⟩).run P W = .ok v W:=by simp [go_sem,hr]
 unfold execOp
 simp only [ho,hx,Instr.loadAt,Instr.sureAddr,Sem.run_bind,Sem.run_pure,Result.andThen_ok,loadVar,hn W,Bool.false_eq_true,if_false,hl]
end
end
inductive SV where
 | v (x : Value)
 | p (i o : Nat)
def SV.den (e : Nat → Nat) : SV → Value
 | .v x => x
 | .p i o => .pointer (some ⟨e i,o,none⟩)
def SV.below (k : Nat) : SV → Bool
 | .v _ => true
 | .p i _ => Nat.blt i k
theorem den_env {e e' : Nat → Nat} {k : Nat} (h : ∀ i,i < k → e' i = e i) : ∀ {s : SV},s.below k = true → s.den e' = s.den e
 | .v _,_ => rfl
 | .p i o,hs => by
  have : i < k:=by simpa [SV.below] using hs
  show Value.pointer (some ⟨e' i,o,none⟩) = _
  rw [h i this]
  rfl
structure Blk where
 ty : TypeId
 cs : List SV
def Blk.obj (e : Nat → Nat) (b : Blk) : Obj:=.cells (b.cs.map (SV.den e)).toArray b.ty (0,0)
abbrev Fun2:=(Nat → Nat) → World → Result Next
def valOf : Result Next → Value
 | .ok (.value v) _ => v
 | _ => undef
def offOf : Result Next → Nat
 | .ok (.value (.pointer (some a))) _ => a.off
 | _ => 0
section
variable {P : Program} {w0 : World}
def toVals : List SV → Option (List Value)
 | [] => some []
 | .v x :: r => (toVals r).map (x :: ·)
 | .p _ _ :: _ => none
def isRowT : TypeDesc → Bool
 | .struct _ | .array _ _ => true
 | _ => false
/-! ### what it says -/
theorem zda {e : Nat → Nat} : ∀ {l : List SV} {vs : List Value},toVals l = some vs → l.map (SV.den e) = vs
 | [],vs,h => by
  obtain rfl : [] = vs:=by simpa [toVals] using h
  rfl
 | .v x :: r,vs,h => by
  unfold toVals at h
  cases hr : toVals r with
  | none => rw [hr] at h; cases h
  | some ws =>
   rw [hr] at h
   obtain rfl : x :: ws = vs:=by simpa using h
   rw [List.map_cons,zda hr]
   rfl
 | .p _ _ :: _,_,h => by cases h
theorem agg_no {P : Program} {ty : TypeId} {d : TypeDesc} (hu : P.underlying ty = some d) (h : isRowT d = false) (W : World) : (isAgg ty).run P W = .ok false W:=by
 unfold isAgg
 rw [Sem.run_bind,run_underlying hu W]
 cases d <;> simp_all [isRowT]
end
inductive OT (P : Program) (w0 : World) (Post : Value → World → Prop) : (World → Prop) → Type 1 where
 | ret {J : World → Prop} (v : Value) (h : ∀ W,J W → Post v W) : OT P w0 Post J
 | call {J : World → Prop} (f : FuncId) (args : Array Value) (v : Value) (ok : ∀ W,J W → Calls P f args W fun e W' => e = .returned v ∧ Ext W W') (r : OT P w0 Post J) : OT P w0 Post J
 | ins {J : World → Prop} (d : Tmp) (key : Sem Value) (v : Value) (ok : ∀ W,J W → key.run P W = .ok v W) (r : OT P w0 Post J) : OT P w0 Post J
 | hang {J : World → Prop} (f : FuncId) (args : Array Value) {α : Type} (val : α → Value) (R : α → World → Prop) (V : α → Nat → Prop)
   (ext : ∀ x W W',R x W → Ext W W' → R x W') (off : ∀ x W g o vs,R x W → ¬ V x g → R x (W.setCells g o vs))
   (ok : ∀ W,J W → Calls P f args W fun e W' => ∃ x,e = .returned (val x) ∧ Ext W W' ∧ R x W' ∧ ∀ g,V x g → (W.heap.size ≤ g ∨ g < w0.heap.size) ∧ g < W'.heap.size)
   (r : ∀ x,OT P w0 Post (fun W => J W ∧ R x W)) : OT P w0 Post J
 | cases {J : World → Prop} (p : Prop) (y : p → OT P w0 Post J) (n : ¬ p → OT P w0 Post J) : OT P w0 Post J
 | get {J : World → Prop} {α : Type} (p : α → Prop) (h : ∃ x,p x) (r : ∀ x,p x → OT P w0 Post J) : OT P w0 Post J
 | loop {J : World → Prop} (T : (Nat → Nat) → List (Nat × SV)) (M : (Nat → Nat) → List Blk) (μ : (Nat → Nat) → Nat) (H : (Nat → Nat) → Prop) (i : Nat → Nat) (h : H i) (body : ∀ i,H i → OT P w0 Post J) : OT P w0 Post J
 | loopG {J : World → Prop} {α : Type} (T : α → List (Nat × SV)) (M : α → List Blk) (μ : α → Nat) (H : α → Prop) (i : α) (h : H i) (t : List (Nat × SV)) (m : List Blk) (ht : T i = t ∧ M i = m) (body : ∀ i,H i → OT P w0 Post J) : OT P w0 Post J
 | nextG {J : World → Prop} (t : List (Nat × SV)) (m : List Blk) (c : Prop) (h : c) : OT P w0 Post J
 | unroll {J : World → Prop} (n : Nat) (r : OT P w0 Post J) : OT P w0 Post J
 | next {J : World → Prop} (i : Nat → Nat) (c : Prop) (h : c) : OT P w0 Post J
structure Sta (P : Program) (w0 : World) (Post : Value → World → Prop) (J : World → Prop) where
 n : Nat
 t : List (Nat × SV)
 z : Nat → Value
 m : List Blk
 x : Nat
 q : OT P w0 Post J
inductive Rsl where
 | bad
 | done
 | eq (l r : Fun2) (n : Rsl)
 | both (a b : Rsl)
 | peq (a b : Prop) (n : Rsl)
 | weq (a b : World → Prop) (n : Rsl)
 | br {α : Type} (n : α → Rsl)
inductive Lft where
 | bad
 | done
 | cons (l : Fun2) (n : Lft)
 | both (a b : Lft)
 | pc (a : Prop) (n : Lft)
 | wc (a : World → Prop) (n : Lft)
 | br {α : Type} (n : α → Lft)
def Rsl.left : Rsl → Lft
 | .bad => .bad
 | .done => .done
 | .eq l _ n => .cons l n.left
 | .both a b => .both a.left b.left
 | .peq a _ n => .pc a n.left
 | .weq a _ n => .wc a n.left
 | .br n => .br fun x => (n x).left
def Rsl.right : Rsl → Lft
 | .bad => .done
 | .done => .done
 | .eq _ r n => .cons r n.right
 | .both a b => .both a.right b.right
 | .peq _ b n => .pc b n.right
 | .weq _ b n => .wc b n.right
 | .br n => .br fun x => (n x).right
def OkR : Rsl → Prop
 | .bad => False
 | .done => True
 | .eq l r n => l = r ∧ OkR n
 | .both a b => OkR a ∧ OkR b
 | .peq a b n => a = b ∧ OkR n
 | .weq a b n => a = b ∧ OkR n
 | .br n => ∀ x,OkR (n x)
theorem zdd : ∀ {r : Rsl},r.left = r.right → OkR r
 | .bad,h => by cases h
 | .done,_ => trivial
 | .eq l r n,h => by
  have h : Lft.cons l n.left = Lft.cons r n.right:=h
  injection h with h1 h2
  exact ⟨h1,zdd h2⟩
 | .both a b,h => by
  have h : Lft.both a.left b.left = Lft.both a.right b.right:=h
  injection h with h1 h2
  exact ⟨zdd h1,zdd h2⟩
 | .peq a b n,h => by
  have h : Lft.pc a n.left = Lft.pc b n.right:=h
  injection h with h1 h2
  exact ⟨h1,zdd h2⟩
 | .weq a b n,h => by
  have h : Lft.wc a n.left = Lft.wc b n.right:=h
  injection h with h1 h2
  exact ⟨h1,zdd h2⟩
 | .br n,h => by
  have h : Lft.br (fun x => (n x).left) = Lft.br fun x => (n x).right:=h
  injection h with _ h2
  exact fun x => zdd (congrFun h2 x)
def lookZ (z : Nat → Value) : List (Nat × SV) → Nat → SV
 | [],i => .v (z i)
 | (j,s) :: r,i => bif Nat.beq i j then s else lookZ z r i
theorem zbz {z : Nat → Value} {l : List (Nat × SV)} {j i : Nat} {x : SV} : lookZ z ((j,x) :: l) i = if i = j then x else lookZ z l i:=by
 show (bif Nat.beq i j then x else lookZ z l i) = _
 by_cases h : i = j
 ·
  subst h; simp
 ·
  have : Nat.beq i j = false:=by
   cases hb : Nat.beq i j with
   | false => rfl
   | true => exact absurd (Nat.eq_of_beq_eq_true hb) h
  rw [this,if_neg h]
  rfl
section
variable {P : Program} {w0 : World} {Post : Value → World → Prop} {J : World → Prop}
def stX (s : Sta P w0 Post J) : Operand → SV
 | .tmp i => lookZ s.z s.t i
 | .const v => .v v
 | .global g => .v (.pointer (some ⟨g,0,none⟩))
 | .func f => .v (.func (.func f) #[] #[])
def stR (s : Sta P w0 Post J) (o : Oper) : Fun2:=fun e W => (execOp (fun x => (stX s x).den e) o).run P W
def Sta.put (s : Sta P w0 Post J) (d : Option Tmp) (x : SV) (k : Sta P w0 Post J → Rsl) : Rsl :=
 match d with
 | none => k s
 | some i => bif Nat.blt i s.n then k { s with t:=(i,x) :: s.t } else .bad
def stWant (s : Sta P w0 Post J) (ops : List Oper) (o : Oper) : Option Bool :=
 match o.guard with
 | none => some true
 | some (k,b) =>
  match ops[k]? with
  | none => none
  | some o' => match o'.dst with
   | none => none
   | some d => match lookZ s.z s.t d with
    | .v (.bool c) => some (c == b)
    | _ => none
def stPure (s : Sta P w0 Post J) (o : Oper) (k : Sta P w0 Post J → Rsl) : Rsl :=
 .eq (stR s o) (fun _ W => .ok (.value (valOf (stR s o (fun _ => 0) w0))) W) (s.put o.dst (.v (valOf (stR s o (fun _ => 0) w0))) k)
def stPtr (s : Sta P w0 Post J) (o : Oper) (i : Nat) (k : Sta P w0 Post J → Rsl) : Rsl :=
 .eq (stR s o) (fun e W => .ok (.value ((SV.p i (offOf (stR s o (fun _ => 0) w0))).den e)) W) (s.put o.dst (.p i (offOf (stR s o (fun _ => 0) w0))) k)
def stLoad (s : Sta P w0 Post J) (o : Oper) (ty : TypeId) (i off : Nat) (k : Sta P w0 Post J → Rsl) : Rsl :=
 match s.m[i]?,P.underlying ty with
 | some b,some d =>
  bif isRowT d then
   match P.info? ty with
   | some inf => match toVals ((b.cs.drop off).take inf.size) with
    | some vs => bif Nat.beq vs.length inf.size then s.put o.dst (.v (.agg vs.toArray)) k else .bad
    | none => .bad
   | none => .bad
  else match b.cs[off]? with
   | some c => s.put o.dst c k
   | none => .bad
 | _,_ => .bad
def stIns (s : Sta P w0 Post J) (o : Oper) (k : Sta P w0 Post J → Rsl) (dflt : Rsl) : Rsl :=
 match s.q,o.dst with
 | .ins d key v _ r,some d' => bif Nat.beq d d' then
   .eq (stR s o) (fun _ W => (do pure (Next.value (← key)) : Sem Next).run P W) ({ s with q:=r }.put o.dst (.v v) k)
  else dflt
 | _,_ => dflt
def stCall (s : Sta P w0 Post J) (o : Oper) (k : Sta P w0 Post J → Rsl) : Rsl :=
 match s.q with
 | .call f args v _ r => .eq (stR s o) (fun _ W => .ok (.enter f args) W) ({ s with q:=r }.put o.dst (.v v) k)
 | _ => .bad
def stVal0 (s : Sta P w0 Post J) (o : Oper) (k : Sta P w0 Post J → Rsl) : Rsl :=
 match o.op with
 | .move x => s.put o.dst (stX s x) k
 | .assign x => s.put o.dst (stX s x) k
 | .pick c a b => match stX s c with
  | .v (.bool true) => s.put o.dst (stX s a) k
  | .v (.bool false) => s.put o.dst (stX s b) k
  | _ => .bad
 | .load ty x => match stX s x with
  | .p i off => stLoad s o ty i off k
  | .v _ => .bad
 | .fieldAddr _ x _ => match stX s x with
  | .p i _ => stPtr s o i k
  | .v _ => stPure s o k
 | .indexAddr _ x _ => match stX s x with
  | .p i _ => stPtr s o i k
  | .v _ => stPure s o k
 | .call c => match c.callee with
  | .builtin _ => stPure s o k
  | _ => stCall s o k
 | _ => stPure s o k
def stVal (s : Sta P w0 Post J) (o : Oper) (k : Sta P w0 Post J → Rsl) : Rsl:=stIns s o k (stVal0 s o k)
def stVals (ops : List Oper) : List Oper → Sta P w0 Post J → (Sta P w0 Post J → Rsl) → Rsl
 | [],s,k => k s
 | o :: l,s,k => match stWant s ops o with
  | some true => stVal s o fun s1 => stVals ops l s1 k
  | some false => s.put o.dst (.v undef) fun s1 => stVals ops l s1 k
  | none => .bad
structure Rl (s : Sta P w0 Post J) (a : Act) (e : Nat → Nat) (w : World) : Prop where
 size : a.tmps.size = s.n
 defers : a.defers = []
 slot : ∀ i,a.tmps.getD i undef = (lookZ s.z s.t i).den e
 blk : ∀ (i : Nat) b,s.m[i]? = some b → w.heap[e i]? = some (b.obj e)
 own : ∀ i,s.x ≤ i → i < s.m.length → w0.heap.size ≤ e i
 far : ∀ i j,s.x ≤ i → i < s.m.length → j < s.m.length → i ≠ j → e i ≠ e j
 ext : Ext w0 w
 jj : J w
 jx : ∀ W W',J W → Ext W W' → J W'
 jo : ∀ i,s.x ≤ i → i < s.m.length → ∀ W o vs,J W → J (W.setCells (e i) o vs)
 jf : ∀ g,w.heap.size ≤ g → ∀ W o vs,J W → J (W.setCells g o vs)
variable {s s' : Sta P w0 Post J} {a : Act} {e : Nat → Nat} {w w' : World} {o : Oper} {k : Sta P w0 Post J → Rsl}
theorem Rl.eval (h : Rl s a e w) : a.eval = fun x => (stX s x).den e:=by
 funext x
 cases x with
 | tmp i => exact h.slot i
 | const v => rfl
 | global g => rfl
 | func f => rfl
theorem Rl.exec (h : Rl s a e w) (o : Oper) (W : World) : (execOp a.eval o).run P W = stR s o e W:=by
 unfold stR
 rw [h.eval]
theorem Rl.more (h : Rl s a e w) (k : Ext w w') : Rl s a e w' :=
 ⟨h.size,h.defers,h.slot,fun i b hb => k.block (h.blk i b hb),h.own,h.far,h.ext.trans k,h.jx _ _ h.jj k,h.jx,h.jo,fun g hg => h.jf g (Nat.le_trans (Below.size k) hg)⟩
theorem Rl.q (h : Rl s a e w) (q : OT P w0 Post J) : Rl { s with q:=q } a e w :=
 ⟨h.size,h.defers,h.slot,h.blk,h.own,h.far,h.ext,h.jj,h.jx,h.jo,h.jf⟩
theorem Rl.put (h : Rl s a e w) {d : Option Tmp} {x : SV} {v : Value} (hk : OkR (s.put d x k)) (hv : x.den e = v) : ∃ s',OkR (k s') ∧ Rl s' (a.put d v) e w ∧ s'.m = s.m ∧ s'.x = s.x:=by
 subst hv
 cases d with
 | none => exact ⟨s,hk,h,rfl,rfl⟩
 | some i =>
  unfold Sta.put at hk
  simp only at hk
  cases hb : Nat.blt i s.n with
  | false => rw [hb] at hk; exact hk.elim
  | true =>
   rw [hb] at hk
   have hi : i < a.tmps.size:=by rw [h.size]; simpa using hb
   refine ⟨_,hk,⟨?_,h.defers,fun j => ?_,h.blk,h.own,h.far,h.ext,h.jj,h.jx,h.jo,h.jf⟩,rfl,rfl⟩
   ·
    show (a.tmps.setIfInBounds i _).size = _
    simpa using h.size
   ·
    show (a.tmps.setIfInBounds i _).getD j undef = (lookZ s.z ((i,x) :: s.t) j).den e
    rw [zbz]
    by_cases hj : j = i
    ·
     subst hj
     rw [if_pos rfl]
     simp [hi]
    ·
     rw [if_neg hj,← h.slot j]
     simp [Ne.symm hj]
theorem stval_sound (hk : OkR (stVal s o k)) (hR : Rl s a e w) : ∃ v s',Made P o v a w ∧ Rl s' (a.put o.dst v) e w ∧ OkR (k s'):=by
 have pure_ : OkR (stPure s o k) → ∃ v s',Made P o v a w ∧ Rl s' (a.put o.dst v) e w ∧ OkR (k s'):=fun ⟨h1,h2⟩ => by
  obtain ⟨s',h3,h4,_⟩:=hR.put h2 rfl
  exact ⟨_,s',zbr fun W _ => by rw [hR.exec]; exact congrFun (congrFun h1 e) W,h4,h3⟩
 have ptr_ : ∀ {i : Nat},OkR (stPtr s o i k) → ∃ v s',Made P o v a w ∧ Rl s' (a.put o.dst v) e w ∧ OkR (k s'):=fun {i} ⟨h1,h2⟩ => by
  obtain ⟨s',h3,h4,_⟩:=hR.put h2 rfl
  exact ⟨_,s',zbr fun W _ => by rw [hR.exec]; exact congrFun (congrFun h1 e) W,h4,h3⟩
 have slot_ : ∀ {x : Operand},OkR (s.put o.dst (stX s x) k) → (∀ W,(execOp a.eval o).run P W = .ok (.value (a.eval x)) W) → ∃ v s',Made P o v a w ∧ Rl s' (a.put o.dst v) e w ∧ OkR (k s'):=fun {x} h hx => by
  obtain ⟨s',h3,h4,_⟩:=hR.put h rfl
  refine ⟨_,s',zbr fun W _ => ?_,h4,h3⟩
  rw [hx W,hR.eval]
 have old : OkR (stVal0 s o k) → ∃ v s',Made P o v a w ∧ Rl s' (a.put o.dst v) e w ∧ OkR (k s'):=fun hk => by
  unfold stVal0 at hk
  split at hk
  ·
   rename_i x ho
   exact slot_ hk fun W => by unfold execOp; simp only [ho,Sem.run_pure]
  ·
   rename_i x ho
   exact slot_ hk fun W => by unfold execOp; simp only [ho,Sem.run_pure]
  ·
   rename_i c x y ho
   split at hk
   ·
    rename_i hc
    have hc' : a.eval c = .bool true:=by rw [hR.eval]; show (stX s c).den e = _; rw [hc]; rfl
    exact slot_ hk fun W => by unfold execOp; simp [ho,hc',asBool]
   ·
    rename_i hc
    have hc' : a.eval c = .bool false:=by rw [hR.eval]; show (stX s c).den e = _; rw [hc]; rfl
    exact slot_ hk fun W => by unfold execOp; simp [ho,hc',asBool]
   ·
    exact hk.elim
  ·
   rename_i ty x ho
   split at hk
   ·
    rename_i i off hx
    have hxa : a.eval x = .pointer (some ⟨e i,off,none⟩):=by rw [hR.eval]; show (stX s x).den e = _; rw [hx]; rfl
    unfold stLoad at hk
    split at hk
    ·
     rename_i b d hb hu
     cases hd : isRowT d with
     | true =>
      rw [hd] at hk
      simp only [cond_true] at hk
      split at hk
      ·
       rename_i inf hi
       split at hk
       ·
        rename_i vs hvs
        cases hl : Nat.beq vs.length inf.size with
        | false => rw [hl] at hk; exact hk.elim
        | true =>
         rw [hl] at hk
         have hlen:=Nat.eq_of_beq_eq_true hl
         obtain ⟨s',h3,h4,_⟩:=hR.put hk rfl
         refine ⟨.agg vs.toArray,s',?_,h4,h3⟩
         refine made_load (g:=e i) (off:=off) (C:=(b.cs.map (SV.den e)).toArray) (t:=b.ty) (fr:=(0,0)) ho hxa (hR.blk i b hb) ?_ hu ?_ (by rw [hi]; simp [hlen])
         ·
          rw [hlen]
          have:=zda (e:=e) hvs
          rw [← this,List.map_take,List.map_drop]
         ·
          cases d <;> simp_all [isRowT]
       ·
        exact hk.elim
      ·
       exact hk.elim
     | false =>
      rw [hd] at hk
      simp only [cond_false] at hk
      split at hk
      ·
       rename_i c hc
       obtain ⟨s',h3,h4,_⟩:=hR.put hk rfl
       exact ⟨c.den e,s',made_load1 (g:=e i) (off:=off) (C:=(b.cs.map (SV.den e)).toArray) (t:=b.ty) (fr:=(0,0)) ho hxa (hR.blk i b hb) (by simp [hc]) (fun W => agg_no hu hd W),h4,h3⟩
      ·
       exact hk.elim
    ·
     exact hk.elim
   ·
    exact hk.elim
  ·
   split at hk
   ·
    exact ptr_ hk
   ·
    exact pure_ hk
  ·
   split at hk
   ·
    exact ptr_ hk
   ·
    exact pure_ hk
  ·
   split at hk
   ·
    exact pure_ hk
   ·
    unfold stCall at hk
    split at hk
    ·
     rename_i f args v ok r hq
     obtain ⟨h1,h2⟩:=hk
     obtain ⟨s',h3,h4,_⟩:=(hR.q r).put h2 rfl
     exact ⟨v,s',made_call (f:=f) (args:=args) (fun W => by rw [hR.exec]; exact congrFun (congrFun h1 e) W) (fun W hW => ok W (hR.jx _ _ hR.jj hW)),h4,h3⟩
    ·
     exact hk.elim
  ·
   exact pure_ hk
 unfold stVal stIns at hk
 split at hk
 ·
  rename_i d key v ok r d' hq hd
  cases hb : Nat.beq d d' with
  | false => rw [hb] at hk; exact old hk
  | true =>
   rw [hb] at hk
   obtain ⟨h1,h2⟩:=hk
   obtain ⟨s',h3,h4,_⟩:=(hR.q r).put h2 rfl
   refine ⟨v,s',zbr fun W hW => ?_,h4,h3⟩
   rw [hR.exec]
   refine (congrFun (congrFun h1 e) W).trans ?_
   simp only [Sem.run_bind,ok W (hR.jx _ _ hR.jj hW),Result.andThen_ok,Sem.run_pure]
 ·
  exact old hk
theorem zam {ops : List Oper} {b : Bool} (h : stWant s ops o = some b) (hR : Rl s a e w) : Region.wanted o (yielded ops.toArray a.tmps) = b:=by
 unfold stWant at h
 unfold Region.wanted
 cases hg : o.guard with
 | none =>
  rw [hg] at h
  simpa using h
 | some kb =>
  obtain ⟨k,b'⟩:=kb
  rw [hg] at h
  simp only at h ⊢
  split at h
  ·
   cases h
  ·
   rename_i o' ho
   split at h
   ·
    cases h
   ·
    rename_i d hd
    split at h
    ·
     rename_i c hc
     have hs:=hR.slot d
     rw [hc] at hs
     have ht : a.tmps[d]? = some (.bool c):=by
      simp only [SV.den,Array.getD_eq_getD_getElem?] at hs
      cases hx : a.tmps[d]? with
      | none => rw [hx] at hs; simp [undef] at hs
      | some y => rw [hx] at hs; simpa using hs
     have hy : yielded ops.toArray a.tmps k = some c:=by
      unfold yielded
      simp [ho,hd,ht]
     rw [hy]
     have h : (c == b') = b:=by simpa using h
     rw [← h]
     cases c <;> cases b' <;> rfl
    ·
     cases h
theorem stvals_mk {ops : List Oper} {R : Act → Prop} : ∀ {l : List Oper} {s : Sta P w0 Post J} {a : Act},OkR (stVals ops l s k) → Rl s a e w → (∀ s' a',OkR (k s') → Rl s' a' e w → R a') → wpMk P ops.toArray w R l a
 | [],s,a,h,hR,hK => hK s a h hR
 | o :: l,s,a,h,hR,hK => by
  unfold stVals at h
  split at h
  ·
   rename_i hw
   obtain ⟨v,s1,hm,hR1,h1⟩:=stval_sound h hR
   exact ⟨v,.inl ⟨zam hw hR,hm⟩,stvals_mk h1 hR1 hK⟩
  ·
   rename_i hw
   obtain ⟨s1,h1,hR1,_⟩:=hR.put h rfl
   exact ⟨undef,.inr ⟨zam hw hR,rfl⟩,stvals_mk h1 hR1 hK⟩
  ·
   exact h.elim
end
section
variable {P : Program} {w0 : World} {Q : Exit → Act → World → Prop}
/-! ### memory -/
def cellsOf : SV → List SV
 | .v x => x.cells.toList.map .v
 | .p i o => [.p i o]
def okCell : SV → Bool
 | .v x => x.oneCell'
 | .p _ _ => true
def isMem (o : Oper) : Bool:=match o.op with
 | .alloc _ | .box _ _ | .store _ _ _ => true
 | _ => false
def isStore (o : Oper) : Bool:=match o.op with
 | .store _ _ _ => true
 | _ => false
theorem cells_off {g k : Nat} (hne : k ≠ g) : ∀ (vs : List Value) (o : Nat) (w : World),(w.setCells g o vs).heap[k]? = w.heap[k]?
 | [],_,_ => rfl
 | _ :: r,o,_ => (cells_off hne r (o + 1) _).trans (Below.heap_setCell _ _ _ _ hne)
theorem cells_ext {w : World} {g : Nat} : ∀ (vs : List Value) (o : Nat) {W : World},Ext w W → w.heap.size ≤ g → Ext w (W.setCells g o vs)
 | [],_,_,h,_ => h
 | v :: r,o,_,h,hg => cells_ext r (o + 1) (zae h hg v) hg
theorem row_of_blk {w : World} {g t : Nat} {C : Array Value} (h : w.heap[g]? = some (.cells C t (0,0))) : w.rowIs g t C.size (fun i => C.getD i undef) :=
 ⟨C,h,rfl,fun i hi => by simp [hi]⟩
theorem cells_on {w : World} {g t o : Nat} {C : List Value} {vs : List Value} (h : w.heap[g]? = some (.cells C.toArray t (0,0))) (ho : o + vs.length ≤ C.length) :
  (w.setCells g o vs).heap[g]? = some (.cells (C.take o ++ (vs ++ C.drop (o + vs.length))).toArray t (0,0)):=by
 rw [blkOf (zdm vs o w _ (row_of_blk h))]
 congr 2
 refine (eq_arrOf ?_ fun i hi => ?_).symm
 ·
  simp; omega
 ·
  have hi' : i < C.length:=by simpa using hi
  by_cases h1 : i < o
  ·
   rw [if_neg (by omega)]
   simp [h1,hi',List.getElem?_append]
   omega
  ·
   by_cases h2 : i < o + vs.length
   ·
    rw [if_pos ⟨by omega,h2⟩]
    have h3 : i - o < vs.length:=by omega
    simp [List.getElem?_append,h1,h3,List.getD_eq_getElem?_getD,show min o C.length = o by omega]
   ·
    rw [if_neg (by omega)]
    simp [List.getElem?_append,h1,hi',show min o C.length = o by omega,show ¬ i - o < vs.length by omega,List.getElem?_drop,show o + vs.length + (i - o - vs.length) = i by omega]
theorem there_blk {w : World} {g t o n : Nat} {C : Array Value} (h : w.heap[g]? = some (.cells C t (0,0))) (ho : o + n ≤ C.size) : w.there g o n:=fun j hj => by
 have r:=row_of_blk h
 exact ⟨by rw [r.cell (show o + j < C.size by omega)]; rfl,r.frozen _⟩
theorem cellsOf_den {e : Nat → Nat} : ∀ (x : SV),(cellsOf x).map (SV.den e) = (x.den e).cells.toList
 | .v x => by simp [cellsOf,SV.den,Function.comp_def]
 | .p i o => rfl
theorem okCell_den {e : Nat → Nat} : ∀ {x : SV},okCell x = true → (x.den e).oneCell' = true
 | .v _,h => h
 | .p _ _,_ => rfl
def upE (e : Nat → Nat) (k g : Nat) : Nat → Nat:=fun j => if j = k then g else e j
theorem obj_vals (e : Nat → Nat) (ty : TypeId) (cs : List Value) : (Blk.mk ty (cs.map SV.v)).obj e = .cells cs.toArray ty (0,0):=by
 unfold Blk.obj
 simp [Function.comp_def,SV.den]
/-! ### a region that draws its order: values in whatever order,then what can come but one by one -/
def isAlloc (o : Oper) : Bool:=match o.op with
 | .alloc _ => true
 | _ => false
def oneB (ops : List Oper) (n k : Nat) (listed : Array Bool) : Bool:=decide (Region.ready .any ops.toArray listed = [k]) && (match ops[k]? with
  | some o => Nat.ble n k || !isStore o
  | none => false)
def pairB (ops : List Oper) (k : Nat) (listed : Array Bool) : Bool :=
 decide (Region.ready .any ops.toArray listed = [k,k + 1]) && (decide (Region.ready .any ops.toArray (listed.setIfInBounds k true) = [k + 1]) && (decide (Region.ready .any ops.toArray (listed.setIfInBounds (k + 1) true) = [k]) &&
  (match ops[k]?,ops[k + 1]? with
  | some o,some o' => isAlloc o && (isAlloc o' && (o.guard.isNone && (o'.guard.isNone && (o.dst.isSome && decide (o.dst ≠ o'.dst)))))
  | _,_ => false)))
def tailB (ops : List Oper) (n : Nat) : Nat → Nat → Array Bool → Bool
 | 0,_,listed => decide (Region.ready .any ops.toArray listed = [])
 | 1,k,listed => oneB ops n k listed && decide (Region.ready .any ops.toArray (listed.setIfInBounds k true) = [])
 | f + 2,k,listed => (oneB ops n k listed && tailB ops n (f + 1) (k + 1) (listed.setIfInBounds k true)) || (pairB ops k listed && tailB ops n f (k + 2) ((listed.setIfInBounds k true).setIfInBounds (k + 1) true))
theorem zdp {ops l : List Oper} {k : Nat} {o : Oper} (hd : ops.drop k = o :: l) : ops[k]? = some o ∧ ops.drop (k + 1) = l:=by
 have h1:=congrArg (fun x => x[0]?) hd
 have h2:=congrArg (fun x => x.drop 1) hd
 exact ⟨by simpa using h1,by simpa [List.drop_drop] using h2⟩
/-! ### code -/
inductive Xt where
 | normal
 | exit (id : Nat)
 | ret
def Xt.to : Xt → Exit
 | .normal => .normal
 | .exit id => .exit id
 | .ret => .ret
end
end Go.Proofs.YtbfkecfcolcclaaGreatDoor
