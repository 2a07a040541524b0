/-
  Of Math Sva Nwa T0 K0 Mem Row Made.
-/
import Derived.WalkKit
import Derived.Test.YtbfkecfcolcclaaGreatDoorRows
import Derived.Deep.OwnRows
import Derived.Deep.Draws
import Derived.Laws.Rows
import Derived.Deep.QuietTactic
import Derived.Deep.MidRow
import Derived.Deep.WholeRow
import Derived.ChangeKeysEq
import Derived.OrdersHeld
import Derived.StillTail
import Derived.Deep.RegionHeld3
set_option maxRecDepth 1000000
set_option maxHeartbeats 20000000
namespace Go.Proofs.YtbfkecfcolcclaaGreatDoor
def dg (B n i : Nat) : Nat:=n / B ^ i % B
def cy (B X Y i : Nat) : Nat:=(X % B ^ i + Y % B ^ i) / B ^ i
def bw (B X Y i : Nat) : Nat:=if X % B ^ i < Y % B ^ i then 1 else 0
theorem dg_lt {B : Nat} (hB : 0 < B) (n i : Nat) : dg B n i < B:=Nat.mod_lt _ hB
theorem zbq (B n i : Nat) : n % B ^ (i + 1) = n % B ^ i + B ^ i * dg B n i:=by
 rw [Nat.pow_succ,Nat.mod_mul,dg]
theorem cy_zero (B X Y : Nat) : cy B X Y 0 = 0:=by simp [cy,Nat.mod_one]
theorem cy_le {B : Nat} (hB : 0 < B) (X Y i : Nat) : cy B X Y i ≤ 1:=by
 have hp : 0 < B ^ i:=Nat.pow_pos hB
 have h1:=Nat.mod_lt X hp
 have h2:=Nat.mod_lt Y hp
 unfold cy
 have : (X % B ^ i + Y % B ^ i) / B ^ i < 2:=(Nat.div_lt_iff_lt_mul hp).2 (by omega)
 omega
theorem cy_succ {B : Nat} (hB : 0 < B) (X Y i : Nat) : cy B X Y (i + 1) = (dg B X i + dg B Y i + cy B X Y i) / B:=by
 have hp : 0 < B ^ i:=Nat.pow_pos hB
 unfold cy
 rw [zbq,zbq]
 rw [show X % B ^ i + B ^ i * dg B X i + (Y % B ^ i + B ^ i * dg B Y i) = (X % B ^ i + Y % B ^ i) + B ^ i * (dg B X i + dg B Y i) by rw [Nat.mul_add]; omega]
 rw [Nat.pow_succ,← Nat.div_div_eq_div_mul,Nat.add_mul_div_left _ _ hp]
 congr 1
 omega
theorem dg_add {B : Nat} (hB : 0 < B) (X Y i : Nat) : dg B (X + Y) i = (dg B X i + dg B Y i + cy B X Y i) % B:=by
 have hp : 0 < B ^ i:=Nat.pow_pos hB
 have hX : X = X % B ^ i + B ^ i * (X / B ^ i):=(Nat.mod_add_div _ _).symm
 have hY : Y = Y % B ^ i + B ^ i * (Y / B ^ i):=(Nat.mod_add_div _ _).symm
 have hs : (X + Y) / B ^ i = (X % B ^ i + Y % B ^ i) / B ^ i + (X / B ^ i + Y / B ^ i):=by
  conv => lhs; rw [hX,hY]
  rw [show X % B ^ i + B ^ i * (X / B ^ i) + (Y % B ^ i + B ^ i * (Y / B ^ i)) = (X % B ^ i + Y % B ^ i) + B ^ i * (X / B ^ i + Y / B ^ i) by rw [Nat.mul_add]; omega]
  rw [Nat.add_mul_div_left _ _ hp]
 unfold dg cy
 rw [hs,show (X % B ^ i + Y % B ^ i) / B ^ i + (X / B ^ i + Y / B ^ i) = X / B ^ i + Y / B ^ i + (X % B ^ i + Y % B ^ i) / B ^ i by omega]
 rw [Nat.add_mod,Nat.add_mod (X / B ^ i) (Y / B ^ i)]
 conv => rhs; rw [Nat.add_mod]
theorem cy_top {B : Nat} {X Y n : Nat} (hX : X < B ^ n) (hY : Y < B ^ n) : cy B X Y n = if B ^ n ≤ X + Y then 1 else 0:=by
 unfold cy
 rw [Nat.mod_eq_of_lt hX,Nat.mod_eq_of_lt hY]
 have hp : 0 < B ^ n:=by omega
 split
 ·
  apply Nat.le_antisymm
  ·
   have:=(Nat.div_lt_iff_lt_mul hp (x:=X + Y) (y:=2)).2 (by omega)
   omega
  ·
   exact (Nat.le_div_iff_mul_le hp).2 (by omega)
 ·
  exact Nat.div_eq_of_lt (by omega)
theorem zcn {B : Nat} (n m i : Nat) (h : i < m) : dg B (n % B ^ m) i = dg B n i:=by
 unfold dg
 obtain ⟨d,rfl⟩ : ∃ d,m = i + (d + 1):=⟨m - i - 1,by omega⟩
 rw [Nat.pow_add,Nat.mod_mul_right_div_self,Nat.mod_mod_of_dvd _ (by rw [Nat.pow_succ]; exact Nat.dvd_mul_left _ _)]
theorem zjv {B : Nat} (hB : 0 < B) : ∀ (n : Nat) {X Y : Nat},(∀ i,i < n → dg B X i = dg B Y i) → X % B ^ n = Y % B ^ n
 | 0,X,Y,_ => by simp [Nat.mod_one]
 | n + 1,X,Y,h => by rw [zbq,zbq,zjv hB n (fun i hi => h i (by omega)),h n (by omega)]
theorem zgy {B : Nat} (hB : 0 < B) {n X Y : Nat} (hX : X < B ^ n) (hY : Y < B ^ n) (h : ∀ i,i < n → dg B X i = dg B Y i) : X = Y:=by
 have:=zjv hB n h
 rwa [Nat.mod_eq_of_lt hX,Nat.mod_eq_of_lt hY] at this
theorem bw_zero (B X Y : Nat) : bw B X Y 0 = 0:=by simp [bw,Nat.mod_one]
theorem bw_le (B X Y i : Nat) : bw B X Y i ≤ 1:=by unfold bw; split <;> omega
theorem bw_succ {B : Nat} (hB : 0 < B) (X Y i : Nat) : bw B X Y (i + 1) = if dg B X i < dg B Y i + bw B X Y i then 1 else 0:=by
 have hp : 0 < B ^ i:=Nat.pow_pos hB
 have h1:=Nat.mod_lt X hp
 have h2:=Nat.mod_lt Y hp
 unfold bw
 rw [zbq,zbq]
 generalize dg B X i = x
 generalize dg B Y i = y
 generalize X % B ^ i = r at *
 generalize Y % B ^ i = s at *
 generalize B ^ i = P at *
 by_cases hxy : x < y
 ·
  have : P * x + P ≤ P * y:=by rw [← Nat.mul_succ]; exact Nat.mul_le_mul_left _ hxy
  rw [if_pos (by omega)]; split <;> rw [if_pos (by omega)]
 ·
  by_cases hyx : y < x
  ·
   have : P * y + P ≤ P * x:=by rw [← Nat.mul_succ]; exact Nat.mul_le_mul_left _ hyx
   rw [if_neg (by omega)]; split <;> rw [if_neg (by omega)]
  ·
   have hxy' : x = y:=by omega
   subst hxy'
   by_cases hrs : r < s
   ·
    rw [if_pos (by omega),if_pos hrs,if_pos (by omega)]
   ·
    rw [if_neg (by omega),if_neg hrs,if_neg (by omega)]
theorem dg_sub {B : Nat} (hB : 0 < B) (X Y n i : Nat) (hi : i < n) (hY : Y ≤ B ^ n) : dg B (X + B ^ n - Y) i = (dg B X i + B - dg B Y i - bw B X Y i) % B:=by
 obtain ⟨D,hD⟩ : ∃ D,X + B ^ n - Y = D:=⟨_,rfl⟩
 rw [hD]
 have hDY : D + Y = X + B ^ n:=by omega
 -- the digit of the sum D + Y
 have h1:=dg_add hB D Y i
 have h2 : dg B (D + Y) i = dg B X i:=by
  rw [hDY]
  unfold dg
  obtain ⟨d,rfl⟩ : ∃ d,n = i + (d + 1):=⟨n - i - 1,by omega⟩
  rw [Nat.pow_add,Nat.add_mul_div_left _ _ (Nat.pow_pos hB),Nat.pow_succ,Nat.add_mul_mod_self_right]
 have h3 : cy B D Y i = bw B X Y i:=by
  have hp : 0 < B ^ i:=Nat.pow_pos hB
  have e : (D + Y) % B ^ i = X % B ^ i:=by
   rw [hDY]
   obtain ⟨d,rfl⟩ : ∃ d,n = i + (d + 1):=⟨n - i - 1,by omega⟩
   rw [Nat.pow_add,Nat.add_mul_mod_self_left]
  rw [Nat.add_mod] at e
  have hd:=Nat.mod_lt D hp
  have hy:=Nat.mod_lt Y hp
  unfold cy bw
  rw [← e]
  generalize D % B ^ i = r at *
  generalize Y % B ^ i = s at *
  by_cases h : r + s < B ^ i
  ·
   rw [Nat.mod_eq_of_lt h,Nat.div_eq_of_lt h,if_neg (by omega)]
  ·
   rw [Nat.mod_eq_sub_mod (by omega),Nat.mod_eq_of_lt (by omega),if_pos (by omega)]
   apply Nat.le_antisymm
   ·
    have:=(Nat.div_lt_iff_lt_mul hp (x:=r + s) (y:=2)).2 (by omega)
    omega
   ·
    exact (Nat.le_div_iff_mul_le hp).2 (by omega)
 rw [h2,h3] at h1
 have b1:=dg_lt hB D i
 have b2:=dg_lt hB Y i
 have b3:=bw_le B X Y i
 have b4:=dg_lt hB X i
 generalize dg B D i = d at *
 generalize dg B Y i = y at *
 generalize dg B X i = x at *
 generalize bw B X Y i = b at *
 by_cases h : d + y + b < B
 ·
  rw [Nat.mod_eq_of_lt h] at h1
  rw [Nat.mod_eq_sub_mod (by omega),Nat.mod_eq_of_lt (by omega)]
  omega
 ·
  rw [Nat.mod_eq_sub_mod (by omega),Nat.mod_eq_of_lt (by omega)] at h1
  rw [Nat.mod_eq_of_lt (by omega)]
  omega
theorem bw_top {B X Y n : Nat} (hX : X < B ^ n) (hY : Y < B ^ n) : bw B X Y n = if X < Y then 1 else 0:=by
 unfold bw
 rw [Nat.mod_eq_of_lt hX,Nat.mod_eq_of_lt hY]
/-! ### words of 64 bits,parts of 16 -/
def w64 : Nat:=18446744073709551616
def w16 : Nat:=65536
def top : Nat:=w64 ^ 4
theorem zam : 0 < w64:=by unfold w64; omega
theorem zje : 0 < w16:=by unfold w16; omega
theorem zbh : 0 < top:=Nat.pow_pos zam
def wd (n i : Nat) : Int:=(dg w64 n i : Nat)
theorem wd_lo (n i : Nat) : 0 ≤ wd n i:=Int.natCast_nonneg _
theorem wd_lt (n i : Nat) : wd n i < 18446744073709551616:=by
 have:=dg_lt zam n i
 unfold wd; unfold w64 at *; omega
theorem wd_le (n i : Nat) : wd n i ≤ 18446744073709551615:=by have:=wd_lt n i; omega
def ofWords (a b c d : Int) : Nat:=a.toNat + w64 * (b.toNat + w64 * (c.toNat + w64 * d.toNat))
theorem ofWords_lt {a b c d : Int} (ha : a < 18446744073709551616) (hb : b < 18446744073709551616) (hc : c < 18446744073709551616) (hd : d < 18446744073709551616) : ofWords a b c d < top:=by
 unfold ofWords top w64
 omega
theorem wd_ofWords {a b c d : Int} (ha0 : 0 ≤ a) (ha : a < 18446744073709551616) (hb0 : 0 ≤ b) (hb : b < 18446744073709551616) (hc0 : 0 ≤ c) (hc : c < 18446744073709551616) (hd0 : 0 ≤ d) (hd : d < 18446744073709551616) :
  wd (ofWords a b c d) 0 = a ∧ wd (ofWords a b c d) 1 = b ∧ wd (ofWords a b c d) 2 = c ∧ wd (ofWords a b c d) 3 = d:=by
 unfold wd dg ofWords w64
 refine ⟨?_,?_,?_,?_⟩ <;> simp <;> omega
theorem zdw (n i : Nat) (h : i < 4) : wd (n % top) i = wd n i:=by
 unfold wd top
 rw [zcn n 4 i h]
def pt (n i : Nat) : Int:=(dg w16 n i : Nat)
theorem pt_lo (n i : Nat) : 0 ≤ pt n i:=Int.natCast_nonneg _
theorem pt_lt (n i : Nat) : pt n i < 65536:=by
 have:=dg_lt zje n i
 unfold pt; unfold w16 at *; omega
def wk (X i k : Nat) : Int:=((dg w64 X i / w16 ^ k : Nat) : Int)
theorem wk_lo (X i k : Nat) : 0 ≤ wk X i k:=Int.natCast_nonneg _
theorem wk_le (X i k : Nat) : wk X i k ≤ 18446744073709551615:=by
 have h:=dg_lt zam X i
 have h2 : dg w64 X i / w16 ^ k ≤ dg w64 X i:=Nat.div_le_self _ _
 have h3 : dg w64 X i / w16 ^ k < w64:=by omega
 unfold wk; unfold w64 at h3 ⊢; omega
theorem wk_zero (X i : Nat) : wk X i 0 = wd X i:=by simp [wk,wd]
theorem wk_succ (X i k : Nat) : wk X i (k + 1) = wk X i k / 65536:=by
 unfold wk
 rw [Nat.pow_succ,← Nat.div_div_eq_div_mul,Int.natCast_ediv]
 rfl
theorem w64_w16 : w64 = w16 ^ 4:=by decide
theorem dg_w16 (X i k : Nat) (hk : k < 4) : dg w64 X i / w16 ^ k % w16 = dg w16 X (4 * i + k):=by
 have h : dg w64 X i = X / w16 ^ (4 * i) % w16 ^ 4:=by rw [dg,w64_w16,Nat.pow_mul]
 rw [h]
 show dg w16 (X / w16 ^ (4 * i) % w16 ^ 4) k = _
 rw [zcn _ 4 k hk,dg,dg,Nat.div_div_eq_div_mul,← Nat.pow_add]
theorem wk_pt (X i k : Nat) (hk : k < 4) : wk X i k % 65536 = pt X (4 * i + k):=by
 unfold wk pt
 rw [← dg_w16 X i k hk]
 rfl
theorem wd_pt (X q : Nat) : wd X q = pt X (4 * q) + 65536 * pt X (4 * q + 1) + 4294967296 * pt X (4 * q + 2) + 281474976710656 * pt X (4 * q + 3):=by
 have h0:=dg_w16 X q 0 (by omega)
 have h1:=dg_w16 X q 1 (by omega)
 have h2:=dg_w16 X q 2 (by omega)
 have h3:=dg_w16 X q 3 (by omega)
 have hl:=dg_lt zam X q
 unfold wd pt
 simp only [Nat.add_zero] at h0
 rw [← h0,← h1,← h2,← h3]
 generalize dg w64 X q = D at *
 unfold w16 w64 at *
 simp only [Nat.pow_zero,Nat.div_one,Nat.reducePow] at *
 omega
end Go.Proofs.YtbfkecfcolcclaaGreatDoor
namespace Go.Proofs.YtbfkecfcolcclaaGreatDoor
structure Sv where
 wk : Int
 fr : Int
 to : Int
 ex : List Int
 ec : List Int
theorem d_get {l : List Int} {i : Nat} (h : i < l.length) : l[i]? = some (l.getD i 0):=by rw [List.getD_eq_getElem?_getD,List.getElem?_eq_getElem h]; rfl
theorem d_mem {l : List Int} {i : Nat} (h : i < l.length) : l.getD i 0 ∈ l:=List.mem_of_getElem? (d_get h)
theorem d_idx {l : List Int} {x : Int} (h : x ∈ l) : ∃ i,i < l.length ∧ l.getD i 0 = x:=by
 obtain ⟨i,hi,rfl⟩:=List.mem_iff_getElem.1 h
 exact ⟨i,hi,by rw [List.getD_eq_getElem?_getD,List.getElem?_eq_getElem hi]; rfl⟩
theorem d_not {l : List Int} {x : Int} (h : ∀ j,j < l.length → l.getD j 0 ≠ x) : decide (x ∈ l) = false:=decide_eq_false fun hm => by
 obtain ⟨i,hi,e⟩:=d_idx hm
 exact h i hi e
theorem d_is {l : List Int} {x : Int} {i : Nat} (h : i < l.length) (e : l.getD i 0 = x) : decide (x ∈ l) = true:=decide_eq_true (by rw [← e]; exact d_mem h)
def okD (l : List Int) (i : Nat) : Prop:=0 ≤ l.getD i 0 ∧ l.getD i 0 ≤ 1048576 ∧ (0 < i → l.getD (i - 1) 0 < l.getD i 0)
instance (l : List Int) (i : Nat) : Decidable (okD l i):=by unfold okD; infer_instance
def daysB (l : List Int) : Bool:=decide (l.length ≤ 100 ∧ ∀ i,i < l.length → okD l i)
theorem daysB_false {l : List Int} {j : Nat} (hj : j < l.length) (h : ¬ okD l j) : daysB l = false:=decide_eq_false fun hh => h (hh.2 j hj)
theorem daysB_len {l : List Int} (h : ∀ j,j < l.length → okD l j) : daysB l = decide (l.length ≤ 100):=by
 unfold daysB
 by_cases hc : l.length ≤ 100
 ·
  rw [decide_eq_true hc,decide_eq_true ⟨hc,h⟩]
 ·
  rw [decide_eq_false hc,decide_eq_false fun hh => hc hh.1]
theorem daysB_ok {l : List Int} (h : daysB l = true) {j : Nat} (hj : j < l.length) : okD l j:=(of_decide_eq_true h).2 j hj
theorem zfn {l : List Int} (h : daysB l = true) : l.length ≤ 100:=(of_decide_eq_true h).1
theorem ziw {l : List Int} (h : ¬ l.length ≤ 100) : daysB l = false:=decide_eq_false fun hh => h hh.1
def farB (a b : List Int) : Bool:=decide (∀ i,i < a.length → a.getD i 0 ∉ b)
theorem farB_false {a b : List Int} {i : Nat} (hi : i < a.length) (h : a.getD i 0 ∈ b) : farB a b = false:=decide_eq_false fun hh => hh i hi h
theorem farB_true {a b : List Int} (h : ∀ i,i < a.length → a.getD i 0 ∉ b) : farB a b = true:=decide_eq_true h
def boundB (s : Sv) : Bool:=decide (0 ≤ s.wk ∧ s.wk ≤ 127 ∧ 0 ≤ s.fr ∧ s.fr ≤ s.to ∧ s.to ≤ 1048576)
def mayV (s : Sv) : Bool:=daysB s.ex && daysB s.ec && farB s.ex s.ec && boundB s
def runsV (s : Sv) (d : Int) : Bool:=decide (d ∈ s.ex) || (!decide (d ∈ s.ec) && decide (s.fr ≤ d ∧ d < s.to ∧ s.wk / 2 ^ (d % 7).toNat % 2 = 1))
theorem zfx {s : Sv} (h : mayV s = true) : daysB s.ex = true ∧ daysB s.ec = true ∧ farB s.ex s.ec = true ∧ 0 ≤ s.wk ∧ s.wk ≤ 127 ∧ 0 ≤ s.fr ∧ s.fr ≤ s.to ∧ s.to ≤ 1048576:=by
 unfold mayV at h
 simp only [Bool.and_eq_true] at h
 exact ⟨h.1.1.1,h.1.1.2,h.1.2,of_decide_eq_true h.2⟩
/-! ### the document's example -/
/-! ### bits -/
theorem zgp (k : Nat) : (0 : Int) ≤ 2 ^ k:=Int.pow_nonneg (by decide)
theorem half_step (w : Int) (h : 0 ≤ w) (k : Nat) : (w / 2 ^ k).tdiv 2 = w / 2 ^ (k + 1):=by
 have h1 : 0 ≤ w / 2 ^ k:=Int.ediv_nonneg h (zgp k)
 rw [Int.tdiv_eq_ediv_of_nonneg h1,Int.ediv_ediv_of_nonneg (zgp k),Int.pow_succ]
theorem zbt (w : Int) (h : 0 ≤ w) (k : Nat) : 0 ≤ w / 2 ^ k:=Int.ediv_nonneg h (zgp k)
theorem rem_one (x : Int) : (x % 2 == 1) = decide (x % 2 = 1):=by
 by_cases c : x % 2 = 1
 ·
  rw [c]; rfl
 ·
  rw [decide_eq_false c]
  simpa using c
end Go.Proofs.YtbfkecfcolcclaaGreatDoor
namespace Go.Proofs.YtbfkecfcolcclaaGreatDoor
structure Cn where
 sv : Int
 fr : Int
 dp : Int
 tu : Int
 ar : Int
structure Nw where
 ss : List Sv
 cs : List Cn
def noSv : Sv:=⟨0,0,0,[],[]⟩
def stopB (x : Int) : Bool:=decide (0 ≤ x) && decide (x < 32)
def okC (k : Nat) (c : Cn) : Prop:=0 ≤ c.sv ∧ c.sv < (k : Int) ∧ stopB c.fr = true ∧ stopB c.tu = true ∧ 0 ≤ c.dp ∧ c.dp ≤ 1439 ∧ c.dp < c.ar ∧ c.ar ≤ 2879
instance (k : Nat) (c : Cn) : Decidable (okC k c):=by unfold okC; infer_instance
section
variable {ss : List Sv} {cs : List Cn} {fr at_ till s m : Int}
end
section
variable {n : Nw} {fr at_ tu till t u : Int} {is is' : Bool}
end
/-! ### the document's example -/
end Go.Proofs.YtbfkecfcolcclaaGreatDoor
namespace Go.Proofs.YtbfkecfcolcclaaGreatDoor
abbrev Fd:=Int × List Nat
def tgF (fs : List Fd) (i : Nat) : Int:=(fs.getD i (0,[])).1
def bsF (fs : List Fd) (i : Nat) : List Nat:=(fs.getD i (0,[])).2
def okF (fs : List Fd) (i : Nat) : Prop:=1 ≤ tgF fs i ∧ tgF fs i ≤ 255 ∧ (bsF fs i).length ≤ 65535 ∧ (0 < i → tgF fs (i - 1) < tgF fs i)
instance (fs : List Fd) (i : Nat) : Decidable (okF fs i):=by unfold okF; exact inferInstance
def mayFs (fs : List Fd) : Bool:=decide (fs.length ≤ 64 ∧ ∀ i,i < fs.length → okF fs i)
def Byt (bs : List Nat) : Prop:=∀ b ∈ bs,b < 256
theorem Byt.getD {bs : List Nat} (h : Byt bs) (i : Nat) : bs.getD i 0 < 256:=by
 rw [List.getD_eq_getElem?_getD]
 by_cases hi : i < bs.length
 ·
  rw [List.getElem?_eq_getElem hi]; exact h _ (List.getElem_mem hi)
 ·
  rw [List.getElem?_eq_none (by omega)]; decide
theorem Byt.append {a b : List Nat} (ha : Byt a) (hb : Byt b) : Byt (a ++ b):=fun x hx => (List.mem_append.1 hx).elim (ha x) (hb x)
theorem Byt.drop {a : List Nat} (h : Byt a) (n : Nat) : Byt (a.drop n):=fun x hx => h x (List.mem_of_mem_drop hx)
theorem Byt.take {a : List Nat} (h : Byt a) (n : Nat) : Byt (a.take n):=fun x hx => h x (List.mem_of_mem_take hx)
def BytF (fs : List Fd) : Prop:=∀ f ∈ fs,Byt f.2
/-! ### a field's bytes -/
def hdr (f : Fd) : List Nat:=[(f.1 % 256).toNat,f.2.length / 256 % 256,f.2.length % 256]
def enc1 (f : Fd) : List Nat:=hdr f ++ f.2
def encF : List Fd → List Nat
 | [] => []
 | f :: r => enc1 f ++ encF r
theorem encF_append : ∀ a b : List Fd,encF (a ++ b) = encF a ++ encF b
 | [],b => rfl
 | f :: a,b => by
  show enc1 f ++ encF (a ++ b) = (enc1 f ++ encF a) ++ encF b
  rw [encF_append a b,List.append_assoc]
theorem zha (f : Fd) : (enc1 f).length = 3 + f.2.length:=by unfold enc1 hdr; simp; omega
theorem zgz : ∀ (fs : List Fd) (m : Nat),(∀ f ∈ fs,f.2.length ≤ m) → (encF fs).length ≤ fs.length * (m + 3)
 | [],_,_ => by simp [encF]
 | f :: fs,m,h => by
  have h1:=zgz fs m fun g hg => h g (List.mem_cons_of_mem _ hg)
  have h2:=h f List.mem_cons_self
  show (enc1 f ++ encF fs).length ≤ _
  rw [List.length_append,zha,List.length_cons,Nat.add_mul]
  omega
theorem hdr_byt (f : Fd) : Byt (hdr f):=fun x hx => by
 unfold hdr at hx
 simp only [List.mem_cons,List.not_mem_nil,or_false] at hx
 omega
theorem encF_take (fs : List Fd) {i : Nat} (hi : i < fs.length) : encF (fs.take (i + 1)) = encF (fs.take i) ++ enc1 (tgF fs i,bsF fs i):=by
 have e : fs.getD i (0,[]) = fs[i]:=by rw [List.getD_eq_getElem?_getD,List.getElem?_eq_getElem hi]; rfl
 rw [List.take_add_one,List.getElem?_eq_getElem hi,encF_append]
 congr 1
 show enc1 fs[i] ++ encF [] = _
 unfold tgF bsF
 rw [e]
 exact List.append_nil _
/-! ### the fields of bytes -/
def parseF : Nat → List Nat → Option (List Fd)
 | _,[] => some []
 | 0,_ :: _ => none
 | k + 1,t :: h :: l :: r => if 256 * h + l ≤ r.length then (parseF k (r.drop (256 * h + l))).map (((t : Int),r.take (256 * h + l)) :: ·) else none
 | _ + 1,_ => none
theorem parseF_fuel : ∀ (k m : Nat) (bs : List Nat),bs.length ≤ k → bs.length ≤ m → parseF k bs = parseF m bs
 | k,m,[],_,_ => by cases k <;> cases m <;> rfl
 | 0,_,b :: bs,h,_ => by simp at h
 | _,0,b :: bs,_,h => by simp at h
 | k + 1,m + 1,[a],_,_ => rfl
 | k + 1,m + 1,[a,b],_,_ => rfl
 | k + 1,m + 1,t :: h :: l :: r,h1,h2 => by
  simp only [List.length_cons] at h1 h2
  show (if _ then _ else _) = (if _ then _ else _)
  have hr : (r.drop (256 * h + l)).length ≤ r.length:=by rw [List.length_drop]; omega
  rw [parseF_fuel k m (r.drop (256 * h + l)) (by omega) (by omega)]
def parse (bs : List Nat) : Option (List Fd):=parseF bs.length bs
def getFs (bs : List Nat) : Option (List Fd):=(parse bs).filter mayFs
theorem parse_nil : parse [] = some []:=rfl
theorem zfv (t h l : Nat) (r : List Nat) : parse (t :: h :: l :: r) = if 256 * h + l ≤ r.length then (parse (r.drop (256 * h + l))).map (((t : Int),r.take (256 * h + l)) :: ·) else none:=by
 show (if _ then _ else _) = _
 by_cases hc : 256 * h + l ≤ r.length
 ·
  rw [if_pos hc,if_pos hc]
  unfold parse
  rw [parseF_fuel (h :: l :: r).length (r.drop (256 * h + l)).length _ (by rw [List.length_drop]; simp only [List.length_cons]; omega) (Nat.le_refl _)]
 ·
  rw [if_neg hc,if_neg hc]
theorem drop3 {bs : List Nat} {a : Nat} (h : a + 3 ≤ bs.length) : bs.drop a = bs.getD a 0 :: bs.getD (a + 1) 0 :: bs.getD (a + 2) 0 :: bs.drop (a + 3):=by
 have e : ∀ i,i < bs.length → bs.drop i = bs.getD i 0 :: bs.drop (i + 1):=fun i hi => by
  rw [List.drop_eq_getElem_cons hi,List.getD_eq_getElem?_getD,List.getElem?_eq_getElem hi]; rfl
 rw [e a (by omega),e (a + 1) (by omega),e (a + 2) (by omega)]
theorem parse_more {bs : List Nat} {a n : Nat} (h : a + 3 ≤ bs.length) (hn : n = 256 * bs.getD (a + 1) 0 + bs.getD (a + 2) 0) (hl : a + 3 + n ≤ bs.length) :
  parse (bs.drop a) = (parse (bs.drop (a + 3 + n))).map ((((bs.getD a 0 : Nat) : Int),(bs.drop (a + 3)).take n) :: ·):=by
 rw [drop3 h,zfv,← hn,List.length_drop,if_pos (by omega),List.drop_drop]
theorem parse_long {bs : List Nat} {a n : Nat} (h : a + 3 ≤ bs.length) (hn : n = 256 * bs.getD (a + 1) 0 + bs.getD (a + 2) 0) (hl : bs.length < a + 3 + n) : parse (bs.drop a) = none:=by
 rw [drop3 h,zfv,← hn,List.length_drop,if_neg (by omega)]
theorem parse_two {bs : List Nat} (h : bs.length < 3) (h0 : 0 < bs.length) : parse bs = none:=by
 match bs,h,h0 with
 | [a],_,_ => rfl
 | [a,b],_,_ => rfl
theorem parse_short {bs : List Nat} {a : Nat} (h : bs.length < a + 3) (h0 : a < bs.length) : parse (bs.drop a) = none:=parse_two (by rw [List.length_drop]; omega) (by rw [List.length_drop]; omega)
theorem parse_end (bs : List Nat) : parse (bs.drop bs.length) = some []:=by rw [List.drop_length]; rfl
/-! ### what was put is got as it was -/
theorem mayFs_each {fs : List Fd} (h : mayFs fs = true) : ∀ f ∈ fs,0 ≤ f.1 ∧ f.1 ≤ 255 ∧ f.2.length ≤ 65535:=by
 intro f hf
 obtain ⟨i,hi,rfl⟩:=List.mem_iff_getElem.1 hf
 have h1:=(of_decide_eq_true h).2 i hi
 have e : fs.getD i (0,[]) = fs[i]:=by rw [List.getD_eq_getElem?_getD,List.getElem?_eq_getElem hi]; rfl
 unfold okF tgF bsF at h1
 rw [e] at h1
 exact ⟨by omega,h1.2.1,h1.2.2.1⟩
theorem enc_parse : ∀ (k : Nat) {bs : List Nat} {fs : List Fd},bs.length ≤ k → Byt bs → parse bs = some fs → encF fs = bs
 | _,[],fs,_,_,h => by
  rw [parse_nil] at h
  obtain rfl:=Option.some.inj h
  rfl
 | _,[a],fs,_,_,h => by cases h
 | _,[a,b],fs,_,_,h => by cases h
 | 0,t :: h :: l :: r,fs,hk,_,_ => by simp at hk
 | k + 1,t :: h :: l :: r,fs,hk,hb,he => by
  rw [zfv] at he
  split at he
  ·
   rename_i hc
   cases hp : parse (r.drop (256 * h + l)) with
   | none => rw [hp] at he; cases he
   | some gs =>
    rw [hp] at he
    obtain rfl:=Option.some.inj he
    have hbt:=hb t (by simp)
    have hbh:=hb h (by simp)
    have hbl:=hb l (by simp)
    have hr : Byt r:=fun x hx => hb x (by simp [hx])
    simp only [List.length_cons] at hk
    have ih:=enc_parse k (by rw [List.length_drop]; omega) (hr.drop _) hp
    show [((t : Int) % 256).toNat,(r.take (256 * h + l)).length / 256 % 256,(r.take (256 * h + l)).length % 256] ++ r.take (256 * h + l) ++ encF gs = _
    rw [ih,List.length_take,Nat.min_eq_left hc,List.append_assoc,List.take_append_drop]
    simp only [List.cons_append,List.nil_append]
    rw [show ((t : Int) % 256).toNat = t by omega,show (256 * h + l) / 256 % 256 = h by omega,show (256 * h + l) % 256 = l by omega]
  ·
   cases he
theorem zjt {bs : List Nat} {fs : List Fd} (h : getFs bs = some fs) : parse bs = some fs ∧ mayFs fs = true:=by
 unfold getFs at h
 rwa [Option.filter_eq_some_iff] at h
theorem enc_get {bs : List Nat} {fs : List Fd} (hb : Byt bs) (h : getFs bs = some fs) : encF fs = bs:=enc_parse bs.length (Nat.le_refl _) hb (zjt h).1
theorem parse_byt : ∀ (k : Nat) {bs : List Nat} {fs : List Fd},bs.length ≤ k → Byt bs → parse bs = some fs → BytF fs
 | _,[],fs,_,_,h => by
  rw [parse_nil] at h
  obtain rfl:=Option.some.inj h
  intro f hf
  cases hf
 | _,[a],fs,_,_,h => by cases h
 | _,[a,b],fs,_,_,h => by cases h
 | 0,t :: h :: l :: r,fs,hk,_,_ => by simp at hk
 | k + 1,t :: h :: l :: r,fs,hk,hb,he => by
  rw [zfv] at he
  split at he
  ·
   cases hp : parse (r.drop (256 * h + l)) with
   | none => rw [hp] at he; cases he
   | some gs =>
    rw [hp] at he
    obtain rfl:=Option.some.inj he
    have hr : Byt r:=fun x hx => hb x (by simp [hx])
    simp only [List.length_cons] at hk
    intro f hf
    rcases List.mem_cons.1 hf with rfl | hf
    ·
     exact hr.take _
    ·
     exact parse_byt k (by rw [List.length_drop]; omega) (hr.drop _) hp f hf
  ·
   cases he
theorem get_byt {bs : List Nat} {fs : List Fd} (hb : Byt bs) (h : getFs bs = some fs) : BytF fs:=parse_byt bs.length (Nat.le_refl _) hb (zjt h).1
/-! ### numbers -/
def numB (n : Int) : List Nat:=(List.range 8).map fun i => (n % 18446744073709551616).toNat / 256 ^ (7 - i) % 256
def valB (bs : List Nat) : Nat:=bs.foldl (fun n b => 256 * n + b) 0
def ofB (bs : List Nat) : Int:=if bs.length = 8 ∧ bs.getD 0 0 ≤ 127 then (valB bs : Nat) else -1
theorem zbp (n : Int) : (numB n).length = 8:=by simp [numB]
theorem numB_byt (n : Int) : Byt (numB n):=fun x hx => by
 simp only [numB,List.mem_map] at hx
 obtain ⟨i,_,rfl⟩:=hx
 exact Nat.mod_lt _ (by decide)
theorem valB_snoc (bs : List Nat) (b : Nat) : valB (bs ++ [b]) = 256 * valB bs + b:=by simp [valB]
theorem zbj {bs : List Nat} {i : Nat} (hi : i < bs.length) : valB (bs.take (i + 1)) = 256 * valB (bs.take i) + bs.getD i 0:=by
 rw [List.take_add_one,List.getElem?_eq_getElem hi,List.getD_eq_getElem?_getD,List.getElem?_eq_getElem hi]
 exact valB_snoc _ _
theorem zjf {bs : List Nat} (h : Byt bs) (h0 : bs.getD 0 0 ≤ 127) : ∀ i,i < bs.length → valB (bs.take (i + 1)) < 128 * 256 ^ i
 | 0,hi => by
  rw [zbj hi]
  simp [valB]
  simp only [List.getD_eq_getElem?_getD] at h0
  omega
 | i + 1,hi => by
  have h1:=zjf h h0 i (by omega)
  have h2:=h.getD (i + 1)
  rw [zbj hi,Nat.pow_succ]
  omega
theorem ofB_le {bs : List Nat} (h : Byt bs) : ofB bs ≤ 9223372036854775807 ∧ -1 ≤ ofB bs:=by
 unfold ofB
 split
 ·
  rename_i hc
  have h1:=zjf h hc.2 7 (by omega)
  rw [List.take_of_length_le (by omega)] at h1
  have : (128 : Nat) * 256 ^ 7 = 9223372036854775808:=by decide
  omega
 ·
  omega
theorem numB_of {bs : List Nat} (h : Byt bs) (h0 : 0 ≤ ofB bs) : numB (ofB bs) = bs:=by
 unfold ofB at h0 ⊢
 split at h0
 ·
  rename_i hc
  rw [if_pos hc]
  have key : ∀ i,i ≤ 8 → valB (bs.take i) = valB bs / 256 ^ (8 - i):=by
   intro i hi
   obtain ⟨d,hd⟩ : ∃ d,d = 8 - i:=⟨_,rfl⟩
   rw [← hd]
   induction d generalizing i with
   | zero =>
    obtain rfl : i = 8:=by omega
    rw [List.take_of_length_le (by omega),Nat.pow_zero,Nat.div_one]
   | succ d ih =>
    have h2:=ih (i + 1) (by omega) (by omega)
    rw [zbj (by omega)] at h2
    have h3:=h.getD i
    rw [Nat.pow_succ,← Nat.div_div_eq_div_mul,← h2]
    omega
  have hlt : valB bs < 18446744073709551616:=by
   have h1:=zjf h hc.2 7 (by omega)
   rw [List.take_of_length_le (by omega)] at h1
   have : (128 : Nat) * 256 ^ 7 = 9223372036854775808:=by decide
   omega
  apply List.ext_getElem?
  intro i
  by_cases hi : i < 8
  ·
   have h1:=key (i + 1) (by omega)
   rw [zbj (by omega)] at h1
   have h3:=h.getD i
   rw [List.getElem?_eq_getElem (by omega : i < bs.length)]
   have e : bs.getD i 0 = bs[i]'(by omega):=by rw [List.getD_eq_getElem?_getD,List.getElem?_eq_getElem (by omega : i < bs.length)]; rfl
   simp only [numB,List.getElem?_map,List.getElem?_range hi,Option.map_some]
   rw [← e,show 7 - i = 8 - (i + 1) by omega,show ((valB bs : Nat) : Int) % 18446744073709551616 = ((valB bs : Nat) : Int) by omega,Int.toNat_natCast,← h1]
   congr 1
   omega
  ·
   rw [List.getElem?_eq_none (by rw [zbp]; omega),List.getElem?_eq_none (by omega)]
 ·
  omega
end Go.Proofs.YtbfkecfcolcclaaGreatDoor
namespace Go.Proofs.YtbfkecfcolcclaaGreatDoor
/-! ### numbers as bytes,the highest first -/
def beB (k n : Nat) : List Nat:=(List.range k).map fun i => n / 256 ^ (k - 1 - i) % 256
theorem ziz (k n : Nat) : (beB k n).length = k:=by simp [beB]
theorem beB_get (k n : Nat) {i : Nat} (hi : i < k) : (beB k n).getD i 0 = n / 256 ^ (k - 1 - i) % 256:=by
 rw [List.getD_eq_getElem?_getD]
 simp [beB,hi]
theorem valB_lt_pow {bs : List Nat} (h : Byt bs) : ∀ i,i ≤ bs.length → valB (bs.take i) < 256 ^ i
 | 0,_ => by simp [valB]
 | i + 1,hi => by
  have h1:=valB_lt_pow h i (by omega)
  have h2:=h.getD i
  rw [zbj (by omega),Nat.pow_succ]
  omega
theorem zgh {bs : List Nat} (h : Byt bs) : valB bs < 256 ^ bs.length:=by
 have:=valB_lt_pow h bs.length (Nat.le_refl _)
 rwa [List.take_length] at this
theorem beB_valB {bs : List Nat} {k : Nat} (h : Byt bs) (hk : bs.length = k) : beB k (valB bs) = bs:=by
 have key : ∀ d i,i + d = k → valB (bs.take i) = valB bs / 256 ^ d:=by
  intro d
  induction d with
  | zero =>
   intro i hi
   rw [List.take_of_length_le (by omega),Nat.pow_zero,Nat.div_one]
  | succ d ih =>
   intro i hi
   have h2:=ih (i + 1) (by omega)
   rw [zbj (by omega)] at h2
   have h3:=h.getD i
   rw [Nat.pow_succ,← Nat.div_div_eq_div_mul,← h2]
   omega
 apply List.ext_getElem?
 intro i
 by_cases hi : i < k
 ·
  have h1:=key (k - 1 - i) (i + 1) (by omega)
  rw [zbj (by omega)] at h1
  have h3:=h.getD i
  have e : bs.getD i 0 = bs[i]'(by omega):=by rw [List.getD_eq_getElem?_getD,List.getElem?_eq_getElem (by omega : i < bs.length)]; rfl
  rw [List.getElem?_eq_getElem (by omega : i < bs.length),List.getElem?_eq_getElem (by rw [ziz]; exact hi)]
  congr 1
  have e2:=beB_get k (valB bs) hi
  rw [List.getD_eq_getElem?_getD,List.getElem?_eq_getElem (by rw [ziz]; exact hi),Option.getD_some] at e2
  rw [e2,← e,← h1]
  omega
 ·
  rw [List.getElem?_eq_none (by rw [ziz]; omega),List.getElem?_eq_none (by omega)]
/-! ### signatures as bytes -/
def sigB (r s : Nat) : List Nat:=beB 32 r ++ beB 32 s
def sigR (bs : List Nat) : Nat:=valB (bs.take 32)
def sigS (bs : List Nat) : Nat:=valB (bs.drop 32)
theorem sig_fore {bs : List Nat} (h : Byt bs) (hl : bs.length = 64) : sigB (sigR bs) (sigS bs) = bs:=by
 unfold sigR sigS sigB
 rw [beB_valB (h.take 32) (by rw [List.length_take]; omega),beB_valB (h.drop 32) (by rw [List.length_drop]; omega),List.take_append_drop]
/-! ### fields of numbers -/
def numFs : Int → List Int → List Fd
 | _,[] => []
 | t,n :: r => (t,numB n) :: numFs (t + 1) r
theorem zeb : ∀ (t : Int) (l : List Int),(numFs t l).length = l.length
 | _,[] => rfl
 | t,n :: r => by
  show (numFs (t + 1) r).length + 1 = r.length + 1
  rw [zeb (t + 1) r]
theorem zhp : ∀ (t : Int) (l : List Int) (i : Nat),i < l.length → tgF (numFs t l) i = t + i ∧ bsF (numFs t l) i = numB (l.getD i 0)
 | _,[],_,h => by simp at h
 | t,n :: r,0,_ => ⟨by show t = t + ((0 : Nat) : Int); omega,rfl⟩
 | t,n :: r,i + 1,h => by
  obtain ⟨h1,h2⟩:=zhp (t + 1) r i (by simpa using h)
  refine ⟨?_,h2⟩
  show tgF (numFs (t + 1) r) i = _
  rw [h1]
  omega
theorem numFs_may {l : List Int} (h : l.length ≤ 64) : mayFs (numFs 1 l) = true:=by
 refine decide_eq_true ⟨by rw [zeb]; exact h,fun i hi => ?_⟩
 rw [zeb] at hi
 obtain ⟨h1,h2⟩:=zhp 1 l i hi
 unfold okF
 rw [h1,h2,zbp]
 refine ⟨by omega,by omega,by omega,fun h0 => ?_⟩
 obtain ⟨h3,_⟩:=zhp 1 l (i - 1) (by omega)
 rw [h3]
 omega
def numsOk (fs : List Fd) (many : Nat) : Prop:=fs.length = many ∧ ∀ i,i < many → tgF fs i = (i : Int) + 1 ∧ 0 ≤ ofB (bsF fs i)
instance (fs : List Fd) (many : Nat) : Decidable (numsOk fs many):=by unfold numsOk; exact inferInstance
def numsOf (fs : List Fd) : List Int:=fs.map fun f => ofB f.2
def numbersB (bs : List Nat) (many : Nat) : Option (List Int):=match getFs bs with
 | some fs => if numsOk fs many then some (numsOf fs) else none
 | none => none
def bodyB (l : List Int) : List Nat:=encF (numFs 1 l)
theorem numsOf_get {fs : List Fd} {i : Nat} (hi : i < fs.length) : (numsOf fs).getD i 0 = ofB (bsF fs i):=by
 unfold numsOf bsF
 simp [List.getD_eq_getElem?_getD,hi]
theorem zdn (fs : List Fd) : (numsOf fs).length = fs.length:=by simp [numsOf]
theorem zkb {bs : List Nat} {many : Nat} {l : List Int} (hb : Byt bs) (h : numbersB bs many = some l) : l.length = many ∧ bodyB l = bs:=by
 unfold numbersB at h
 cases hg : getFs bs with
 | none => rw [hg] at h; cases h
 | some fs =>
  rw [hg] at h
  simp only at h
  split at h
  ·
   rename_i hok
   injection h with h
   subst h
   refine ⟨by rw [zdn]; exact hok.1,?_⟩
   unfold bodyB
   have hB:=get_byt hb hg
   have e : numFs 1 (numsOf fs) = fs:=by
    apply List.ext_getElem
    ·
     rw [zeb,zdn]
    intro i h1 h2
    have h3 : i < (numsOf fs).length:=by rw [zdn]; exact h2
    obtain ⟨x1,x2⟩:=zhp 1 (numsOf fs) i h3
    obtain ⟨y1,y2⟩:=hok.2 i (by have:=hok.1; omega)
    rw [numsOf_get h2,numB_of (by
     unfold bsF
     rw [List.getD_eq_getElem?_getD,List.getElem?_eq_getElem h2]
     exact hB _ (List.getElem_mem h2)) y2] at x2
    unfold tgF at x1 y1
    unfold bsF at x2
    simp only [List.getD_eq_getElem?_getD,List.getElem?_eq_getElem h1,List.getElem?_eq_getElem h2,Option.getD_some] at x1 x2 y1
    exact Prod.ext (by rw [x1,y1]; omega) x2
   rw [e]
   exact enc_get hb hg
  ·
   cases h
end Go.Proofs.YtbfkecfcolcclaaGreatDoor
namespace Go.Proofs.YtbfkecfcolcclaaGreatDoor
open Go.RowKit
open Go.Value renaming int → vI
open Go.IntKind renaming u64 → vU
open Go.Act renaming put → aP
open List renaming setIfInBounds_toArray → lA, set_cons_zero → lZ, set_cons_succ → lS
theorem veil {p : Prop} (h : p) : Hid p:=h
section
variable {w w' : World} {b b' t n i B : Nat} {f g : Nat → Value} {cs : Array Value}
theorem zah (hb : b = w.heap.size) (hn : cs.size = n) (h : ∀ i,i < n → cs[i]? = some (f i)) : (w.alloc (.cells cs t)).rowIs b t n f:=by
 subst hb; subst hn
 exact World.rowIs_alloc w cs t f h
theorem zaq (h : w.rowIs b t n f) (hne : b ≠ b') (v : Value) : (w.setCell ⟨b',i,none⟩ v).rowIs b t n f:=h.setOther hne v
theorem zaf (h : w.rowIs b t n f) (hb : Below B w w') (hlt : b < B) : w'.rowIs b t n f:=h.of_block (hb.block b hlt)
theorem zbz (h : w.rowIs b t n f) (k : Nat) : (w.drewN k).rowIs b t n f:=h
theorem zag {a : World} (h : Below B a w) (hb : B ≤ b) (v : Value) : Below B a (w.setCell ⟨b,i,none⟩ v):=h.setCell hb v
theorem zar {a : World} (h : Below B a w) (k : Nat) : Below B a (w.drewN k):=⟨h.os,h.tape,h.output,h.size,h.block⟩
theorem arr4 (f : Nat → Value) : ∀ i,i < 4 → (#[f 0,f 1,f 2,f 3] : Array Value)[i]? = some (f i)
 | 0,_ => rfl
 | 1,_ => rfl
 | 2,_ => rfl
 | 3,_ => rfl
 | n + 4,h => by omega
theorem arr8 (f : Nat → Value) : ∀ i,i < 8 → (#[f 0,f 1,f 2,f 3,f 4,f 5,f 6,f 7] : Array Value)[i]? = some (f i)
 | 0,_ => rfl
 | 1,_ => rfl
 | 2,_ => rfl
 | 3,_ => rfl
 | 4,_ => rfl
 | 5,_ => rfl
 | 6,_ => rfl
 | 7,_ => rfl
 | n + 8,h => by omega
theorem zak (h : w.rowIs b t 4 f) : w.cell? ⟨b,0,none⟩ = some (f 0) ∧ w.cell? ⟨b,1,none⟩ = some (f 1) ∧ w.cell? ⟨b,2,none⟩ = some (f 2) ∧ w.cell? ⟨b,3,none⟩ = some (f 3) :=
 ⟨h.cell (by omega),h.cell (by omega),h.cell (by omega),h.cell (by omega)⟩
theorem row_c8 (h : w.rowIs b t 8 f) : w.cell? ⟨b,0,none⟩ = some (f 0) ∧ w.cell? ⟨b,1,none⟩ = some (f 1) ∧ w.cell? ⟨b,2,none⟩ = some (f 2) ∧ w.cell? ⟨b,3,none⟩ = some (f 3) ∧
  w.cell? ⟨b,4,none⟩ = some (f 4) ∧ w.cell? ⟨b,5,none⟩ = some (f 5) ∧ w.cell? ⟨b,6,none⟩ = some (f 6) ∧ w.cell? ⟨b,7,none⟩ = some (f 7) :=
 ⟨h.cell (by omega),h.cell (by omega),h.cell (by omega),h.cell (by omega),h.cell (by omega),h.cell (by omega),h.cell (by omega),h.cell (by omega)⟩
theorem zbi (h : w.rowIs b t n f) : w.frozen? ⟨b,0,none⟩ = false ∧ w.frozen? ⟨b,1,none⟩ = false ∧ w.frozen? ⟨b,2,none⟩ = false ∧ w.frozen? ⟨b,3,none⟩ = false :=
 ⟨h.frozen _,h.frozen _,h.frozen _,h.frozen _⟩
theorem row_f8 (h : w.rowIs b t n f) : w.frozen? ⟨b,0,none⟩ = false ∧ w.frozen? ⟨b,1,none⟩ = false ∧ w.frozen? ⟨b,2,none⟩ = false ∧ w.frozen? ⟨b,3,none⟩ = false ∧
  w.frozen? ⟨b,4,none⟩ = false ∧ w.frozen? ⟨b,5,none⟩ = false ∧ w.frozen? ⟨b,6,none⟩ = false ∧ w.frozen? ⟨b,7,none⟩ = false :=
 ⟨h.frozen _,h.frozen _,h.frozen _,h.frozen _,h.frozen _,h.frozen _,h.frozen _,h.frozen _⟩
theorem arr_eq {c : Array Value} : ∀ {l : List Value},c.size = l.length → (∀ i,i < l.length → c[i]? = l[i]?) → c = l.toArray:=by
 intro l hs h
 apply Array.ext_getElem?
 intro i
 by_cases hi : i < l.length
 ·
  rw [h i hi]; simp
 ·
  rw [Array.getElem?_eq_none (by omega),Array.getElem?_eq_none (by simp; omega)]
theorem blk4 (h : w.rowIs b t 4 f) : w.heap[b]? = some (.cells #[f 0,f 1,f 2,f 3] t (0,0)):=by
 obtain ⟨c,hb,hn,hc⟩:=h
 rw [hb,arr_eq (c:=c) (l:=[f 0,f 1,f 2,f 3]) (by simpa using hn) (fun i hi => by
  have hi4 : i < 4:=by simpa using hi
  rw [hc i hi4]
  exact (by simpa using arr4 f i hi4 : [f 0,f 1,f 2,f 3][i]? = some (f i)).symm)]
theorem blk8 (h : w.rowIs b t 8 f) : w.heap[b]? = some (.cells #[f 0,f 1,f 2,f 3,f 4,f 5,f 6,f 7] t (0,0)):=by
 obtain ⟨c,hb,hn,hc⟩:=h
 rw [hb,arr_eq (c:=c) (l:=[f 0,f 1,f 2,f 3,f 4,f 5,f 6,f 7]) (by simpa using hn) (fun i hi => by
  have hi8 : i < 8:=by simpa using hi
  rw [hc i hi8]
  exact (by simpa using arr8 f i hi8 : [f 0,f 1,f 2,f 3,f 4,f 5,f 6,f 7][i]? = some (f i)).symm)]
theorem put4 (h : w.rowIs b t 4 f) (g : Nat → Value) : ((((w.setCell ⟨b,0,none⟩ (g 0)).setCell ⟨b,1,none⟩ (g 1)).setCell ⟨b,2,none⟩ (g 2)).setCell ⟨b,3,none⟩ (g 3)).rowIs b t 4 g :=
 ((((h.set 0 (g 0)).set 1 (g 1)).set 2 (g 2)).set 3 (g 3)).congr fun i hi => by
  have : i = 0 ∨ i = 1 ∨ i = 2 ∨ i = 3:=by omega
  rcases this with rfl | rfl | rfl | rfl <;> rfl
theorem put8 (h : w.rowIs b t 8 f) (g : Nat → Value) : ((((((((w.setCell ⟨b,0,none⟩ (g 0)).setCell ⟨b,1,none⟩ (g 1)).setCell ⟨b,2,none⟩ (g 2)).setCell ⟨b,3,none⟩ (g 3)).setCell ⟨b,4,none⟩ (g 4)).setCell ⟨b,5,none⟩ (g 5)).setCell ⟨b,6,none⟩ (g 6)).setCell ⟨b,7,none⟩ (g 7)).rowIs b t 8 g :=
 ((((((((h.set 0 (g 0)).set 1 (g 1)).set 2 (g 2)).set 3 (g 3)).set 4 (g 4)).set 5 (g 5)).set 6 (g 6)).set 7 (g 7)).congr fun i hi => by
  have : i = 0 ∨ i = 1 ∨ i = 2 ∨ i = 3 ∨ i = 4 ∨ i = 5 ∨ i = 6 ∨ i = 7:=by omega
  rcases this with rfl | rfl | rfl | rfl | rfl | rfl | rfl | rfl <;> rfl
theorem row_far4 (h : w.rowIs b t n f) (hne : b ≠ b') (v0 v1 v2 v3 : Value) : ((((w.setCell ⟨b',0,none⟩ v0).setCell ⟨b',1,none⟩ v1).setCell ⟨b',2,none⟩ v2).setCell ⟨b',3,none⟩ v3).rowIs b t n f :=
 zaq (zaq (zaq (zaq h hne _) hne _) hne _) hne _
theorem zas {a : World} (h : Below B a w) (hb : B ≤ b) (v0 v1 v2 v3 : Value) : Below B a ((((w.setCell ⟨b,0,none⟩ v0).setCell ⟨b,1,none⟩ v1).setCell ⟨b,2,none⟩ v2).setCell ⟨b,3,none⟩ v3) :=
 zag (zag (zag (zag h hb _) hb _) hb _) hb _
theorem below_put8 {a : World} (h : Below B a w) (hb : B ≤ b) (v0 v1 v2 v3 v4 v5 v6 v7 : Value) :
  Below B a ((((((((w.setCell ⟨b,0,none⟩ v0).setCell ⟨b,1,none⟩ v1).setCell ⟨b,2,none⟩ v2).setCell ⟨b,3,none⟩ v3).setCell ⟨b,4,none⟩ v4).setCell ⟨b,5,none⟩ v5).setCell ⟨b,6,none⟩ v6).setCell ⟨b,7,none⟩ v7) :=
 zag (zag (zag (zag (zag (zag (zag (zag h hb _) hb _) hb _) hb _) hb _) hb _) hb _) hb _
end
theorem row_step {X : Nat} {k : Nat} (hk : k < 4) : ∀ i,i < 4 → (if i = k then Value.int .u64 (wd X k) else Value.int .u64 (if i < k then wd X i else 0)) = Value.int .u64 (if i < k + 1 then wd X i else 0):=by
 intro i _
 by_cases h : i = k
 ·
  subst h; simp
 ·
  rw [if_neg h]; by_cases h2 : i < k
  ·
   rw [if_pos h2,if_pos (by omega)]
  ·
   rw [if_neg h2,if_neg (by omega)]
def Pre (w : World) (g t n : Nat) (f : Nat → Value) : Prop:=∃ c : Array Value,w.heap[g]? = some (.cells c t (0,0)) ∧ ∀ i,i < n → c[i]? = some (f i)
section
variable {w w' : World} {g t n B : Nat} {f h : Nat → Value}
theorem Pre.cell (p : Pre w g t n f) {i : Nat} (hi : i < n) : w.cell? ⟨g,i,none⟩ = some (f i):=by
 obtain ⟨c,hb,hc⟩:=p
 simp [World.cell?,hb,hc i hi]
theorem Pre.frozen (p : Pre w g t n f) (i : Nat) : w.frozen? ⟨g,i,none⟩ = false:=by
 obtain ⟨c,hb,_⟩:=p
 simp [World.frozen?,hb]
theorem Pre.lt (p : Pre w g t n f) : g < w.heap.size:=by
 obtain ⟨c,hb,_⟩:=p
 obtain ⟨hlt,_⟩:=Array.getElem?_eq_some_iff.1 hb
 exact hlt
theorem Pre.congr (p : Pre w g t n f) (e : ∀ i,i < n → f i = h i) : Pre w g t n h:=by
 obtain ⟨c,hb,hc⟩:=p
 exact ⟨c,hb,fun i hi => by rw [hc i hi,e i hi]⟩
theorem Pre.of_block (p : Pre w g t n f) (e : w'.heap[g]? = w.heap[g]?) : Pre w' g t n f:=by
 obtain ⟨c,hb,hc⟩:=p
 exact ⟨c,e.trans hb,hc⟩
theorem Pre.set (p : Pre w g t n f) (i : Nat) (v : Value) : Pre (w.setCell ⟨g,i,none⟩ v) g t n (fun j => if j = i then v else f j):=by
 obtain ⟨c,hb,hc⟩:=p
 refine ⟨c.setIfInBounds i v,?_,fun j hj => ?_⟩
 ·
  simp [World.setCell,Array.getElem?_modify,hb]
 ·
  rw [Array.getElem?_setIfInBounds]
  have hlt : j < c.size:=(Array.getElem?_eq_some_iff.1 (hc j hj)).1
  by_cases e : j = i
  ·
   subst e; simp [hlt]
  ·
   rw [if_neg (fun h => e h.symm)]
   show c[j]? = some (if j = i then v else f j)
   rw [if_neg e,hc j hj]
theorem Pre.far {b i : Nat} (p : Pre w g t n f) (hne : g ≠ b) (v : Value) : Pre (w.setCell ⟨b,i,none⟩ v) g t n f:=p.of_block (Below.heap_setCell _ _ _ _ hne)
theorem Pre.alloc (p : Pre w g t n f) (o : Obj) : Pre (w.alloc o) g t n f:=p.of_block (Below.heap_alloc _ _ _ p.lt)
theorem Pre.drew (p : Pre w g t n f) : Pre w.drew g t n f:=p
theorem Pre.drewN (p : Pre w g t n f) (k : Nat) : Pre (w.drewN k) g t n f:=p
theorem Pre.below (p : Pre w g t n f) (hb : Below B w w') (hlt : g < B) : Pre w' g t n f:=p.of_block (hb.block g hlt)
theorem Pre.of_row (r : w.rowIs g t n f) : Pre w g t n f:=by
 obtain ⟨c,hb,_,hc⟩:=r
 exact ⟨c,hb,hc⟩
theorem Pre.of_own {base m : Nat} {v : Value} (hown : w.ownsRow base t 1 v m ((List.range m).map f)) (hm : 0 < m) :
  ∃ g cap,v = .slice (some ⟨g,0,none⟩) m cap ∧ m ≤ cap ∧ base ≤ g ∧ Pre w g t m f:=by
 obtain ⟨_,⟨_,h0⟩ | ⟨g,cap,cur,rfl,hbg,hh,hnc,_,_,ht⟩⟩:=hown
 ·
  omega
 ·
  refine ⟨g,cap,rfl,hnc,hbg,cur,hh,fun i hi => ?_⟩
  have e : cur.toList[i]? = (cur.toList.take (m * 1))[i]?:=by rw [List.getElem?_take_of_lt (by omega)]
  have : cur[i]? = cur.toList[i]?:=by simp
  rw [this,e,ht]
  simp [hi]
theorem zhj {b : Nat} {row : Option Nat} (r : w.rowIs b t n f) (hg : w.grownBy w' row) (hne : some b ≠ row) : w'.rowIs b t n f:=r.of_block (hg.block b r.lt hne)
end
theorem quiet_more {P : Program} {fid : FuncId} {args : Array Value} {w : World} {a n : Nat} {v : Value} (h : Calls P fid args (w.drewN (a + n)) fun e w' => e = .returned v ∧ w' = w.drewN (a + n)) :
  Calls P fid args (w.drewN (a + n)) fun e w' => e = .returned v ∧ ∃ m,w' = w.drewN (a + m) :=
 h.mono fun _ _ ⟨he,hm⟩ => ⟨he,n,hm⟩
theorem zcc {P : Program} {fn : Func} {p s : Tmp} {ty : TypeId} (h : fn.results = #[.cell p ty,.tmp s]) (tmps : Array Value) (w : World) (g : Nat) (t : TypeId) (cs : Array Value) (fr : Nat × Nat) (n : Nat) (e : TypeId)
  (hp : tmps.getD p undef = .pointer (some ⟨g,0,none⟩)) (hg : w.heap[g]? = some (.cells cs t fr)) (hu : P.underlying ty = some (.array n e)) (hi : (P.info? ty).map (·.size) = some cs.size) :
  (results fn tmps).run P w = .ok (.tuple #[.agg cs,tmps.getD s undef]) w:=by
 have hp' : tmps[p]?.getD undef = .pointer (some ⟨g,0,none⟩):=by simpa using hp
 simp [results,h,hp',asAddr,run_loadVar_row w g t ty cs fr _ hg hu rfl hi]
def arrOf (n : Nat) (f : Nat → Value) : Array Value:=((List.range n).map f).toArray
theorem zau (n : Nat) (f : Nat → Value) : (arrOf n f).size = n:=by simp [arrOf]
theorem zck {n : Nat} (f : Nat → Value) {i : Nat} (hi : i < n) : (arrOf n f)[i]? = some (f i):=by simp [arrOf,hi]
theorem eq_arrOf {n : Nat} {f : Nat → Value} {cs : Array Value} (hn : cs.size = n) (h : ∀ i,i < n → cs[i]? = some (f i)) : cs = arrOf n f:=by
 apply Array.ext_getElem?
 intro i
 by_cases hi : i < n
 ·
  rw [h i hi,zck f hi]
 ·
  rw [Array.getElem?_eq_none (by omega),Array.getElem?_eq_none (by rw [zau]; omega)]
theorem zdj {n : Nat} {f : Nat → Value} (h : ∀ i,i < n → (f i).oneCell' = true) : (arrOf n f).all (·.oneCell') = true:=by
 rw [Array.all_eq_true_iff_forall_mem]
 intro v hv
 simp [arrOf] at hv
 obtain ⟨i,hi,rfl⟩:=hv
 exact h i hi
section
variable {w w' : World} {b t n B : Nat} {f : Nat → Value}
theorem blkOf (h : w.rowIs b t n f) : w.heap[b]? = some (.cells (arrOf n f) t (0,0)):=by
 obtain ⟨c,hb,hn,hc⟩:=h
 rw [hb,eq_arrOf hn hc]
theorem zby (w : World) (n t : Nat) (f : Nat → Value) {g : Nat} (hg : g = w.heap.size) : (w.alloc (.cells (arrOf n f) t)).rowIs g t n f :=
 zah hg (zau n f) fun _ hi => zck f hi
theorem row_setRow {a : Array Value} (h : w.rowIs b t n f) (hn : a.size = n) {g : Nat → Value} (hg : ∀ i,i < n → a[i]? = some (g i)) : (w.setRow b a).rowIs b t n g:=by
 obtain ⟨c,hb,_,_⟩:=h
 exact ⟨a,setRow_heap w b c a t (0,0) hb,hn,hg⟩
theorem zei (w : World) {b b' : Nat} (a : Array Value) (hne : b ≠ b') : (w.setRow b' a).heap[b]? = w.heap[b]?:=by
 simp only [World.setRow,Array.getElem?_modify]
 rw [if_neg (by omega)]
end
theorem zdm {P : Program} {t e n i : Nat} {cs : Array Value} {v : Value} (hu : P.underlying t = some (.array n e)) (hs : (P.info? e).map (·.size) = some 1)
  (hp : ∀ w,(part e cs i).run P w = .ok v w) (hi : i < n) (k : IntKind) (w : World) : (Instr.index t (.agg cs) (.int k (i : Int))).run P w = .ok v w:=by
 cases hq : P.info? e with
 | none => simp [hq] at hs
 | some inf =>
  have hz : inf.size = 1:=by simpa [hq] using hs
  simp [Instr.index,asIntOf,Sem.run_bind,run_underlying hu w,hi,sizeOf,typeInfo,hq,hz,hp,Result.andThen_ok]
theorem zaa (n : Nat) {P : Program} {ops : Array Oper} {Q : Exit → Act → World → Prop} {rest : List Oper} {a : Act} {w : World} {op : Op} {ty : TypeId} {pos : String} {af : Array Edge} {g : Option (Tmp × Bool)}
  (h : wpList P ops Q (⟨some n,op,ty,pos,af,g⟩ :: rest) a w) : wpList P ops Q (⟨some n,op,ty,pos,af,g⟩ :: rest) a w:=h
theorem zac {P : Program} {ops : Array Oper} {Q : Exit → Act → World → Prop} {rest : List Oper} {a : Act} {w : World} {op : Op} {ty : TypeId} {pos : String} {af : Array Edge} {g : Option (Tmp × Bool)}
  (h : wpList P ops Q (⟨none,op,ty,pos,af,g⟩ :: rest) a w) : wpList P ops Q (⟨none,op,ty,pos,af,g⟩ :: rest) a w:=h
theorem zdd {B b : Nat} {a w : World} (h : Below B a w) (hb : B ≤ b) (cs : Array Value) : Below B a (w.setRow b cs) :=
 ⟨h.os,h.tape,h.output,by simpa [World.setRow] using h.size,fun k hk => (zei w cs (by omega)).trans (h.block k hk)⟩
abbrev But (r : Nat) (w w' : World) : Prop:=w.grownBy w' (some r)
section
variable {w w' w'' : World} {r : Nat}
theorem But.refl (r : Nat) (w : World) : But r w w:=⟨rfl,rfl,rfl,Nat.le_refl _,fun _ _ _ => rfl⟩
theorem But.trans (h : But r w w') (k : But r w' w'') : But r w w'' :=
 ⟨k.os.trans h.os,k.tape.trans h.tape,k.output.trans h.output,Nat.le_trans h.size k.size,fun i hi hne => (k.block i (Nat.lt_of_lt_of_le hi h.size) hne).trans (h.block i hi hne)⟩
theorem But.below (h : But r w w') (k : Below w'.heap.size w' w'') : But r w w'' :=
 h.trans ⟨k.os,k.tape,k.output,k.size,fun i hi _ => k.block i hi⟩
theorem But.of_below (k : Below w.heap.size w w') : But r w w':=(But.refl r w).below k
theorem But.set (h : But r w w') (i : Nat) (v : Value) : But r w (w'.setCell ⟨r,i,none⟩ v) :=
 h.trans ⟨rfl,rfl,rfl,by simp [World.setCell],fun k _ hne => Below.heap_setCell _ _ _ _ (by simpa using hne)⟩
theorem But.alloc (h : But r w w') (o : Obj) : But r w (w'.alloc o):=h.below ((Below.refl _ _).alloc (Nat.le_refl _) o)
theorem But.drew (h : But r w w') : But r w w'.drew:=⟨h.os,h.tape,h.output,h.size,h.block⟩
theorem But.drewN (h : But r w w') (k : Nat) : But r w (w'.drewN k):=⟨h.os,h.tape,h.output,h.size,h.block⟩
theorem But.far {b i : Nat} (h : But r w w') (hb : w.heap.size ≤ b) (v : Value) : But r w (w'.setCell ⟨b,i,none⟩ v) :=
 ⟨h.os,h.tape,h.output,by simpa [World.setCell] using h.size,fun k hk hne => (Below.heap_setCell _ _ _ _ (by show k ≠ b; omega)).trans (h.block k hk hne)⟩
theorem But.new {B : Nat} (h : But r w w') (hr : B ≤ r) (hB : B ≤ w.heap.size) : Below B w w' :=
 ⟨h.os,h.tape,h.output,h.size,fun k hk => h.block k (by omega) (by simp; omega)⟩
theorem row_but {b t n : Nat} {f : Nat → Value} (h : w.rowIs b t n f) (k : But r w w') (hne : b ≠ r) : w'.rowIs b t n f:=h.of_block (k.block b h.lt (by simpa using hne))
end
/-! ### steps of a region that draws its order -/
/-! ### what such a region keeps: a range of cells,and all blocks but one -/
theorem keepD {w5 W : World} {g gR : Nat} {L : List Value} (h : W.rangeAt g 0 L ∧ But gR w5 W) : W.drew.rangeAt g 0 L ∧ But gR w5 W.drew:=⟨h.1,h.2.drew⟩
theorem zjj {b t n : Nat} : ∀ (vs : List Value) (o : Nat) (w : World) (f : Nat → Value),w.rowIs b t n f → (w.setCells b o vs).rowIs b t n (fun j => if o ≤ j ∧ j < o + vs.length then vs.getD (j - o) undef else f j)
 | [],o,w,f,h => h.congr fun j _ => by rw [if_neg (by simp only [List.length_nil]; omega)]
 | v :: r,o,w,f,h => (zjj r (o + 1) _ _ (h.set o v)).congr fun j _ => by
  simp only [List.length_cons]
  by_cases h1 : j = o
  ·
   subst h1
   rw [if_neg (by omega),if_pos rfl,if_pos (by omega),Nat.sub_self]; rfl
  ·
   rw [if_neg h1]
   by_cases h2 : o + 1 ≤ j ∧ j < o + 1 + r.length
   ·
    rw [if_pos h2,if_pos (by omega),show j - o = (j - (o + 1)) + 1 by omega]; rfl
   ·
    rw [if_neg h2,if_neg (by omega)]
theorem But.setCells {r : Nat} {w0 : World} : ∀ (vs : List Value) (o : Nat) (w : World),But r w0 w → But r w0 (w.setCells r o vs)
 | [],_,_,h => h
 | v :: l,o,_,h => But.setCells l (o + 1) _ (h.set o v)
/-! ### what a region keeps that stores into one block in the end -/
section
variable {r t n : Nat} {wz W W' : World}
end
def Ext (w w' : World) : Prop:=Below w.heap.size w w'
theorem Ext.refl (w : World) : Ext w w:=Below.refl _ _
theorem Ext.trans {a b c : World} (h : Ext a b) (k : Ext b c) : Ext a c:=Below.trans h (Below.mono k h.size)
theorem Ext.drew (w : World) : Ext w w.drew:=Below.drew (Below.refl _ _)
theorem Ext.alloc (w : World) (o : Obj) : Ext w (w.alloc o):=(Below.refl _ _).alloc (Nat.le_refl _) o
theorem Ext.block {a b : World} (h : Ext a b) {g : Nat} {o : Obj} (hg : a.heap[g]? = some o) : b.heap[g]? = some o:=by
 rw [Below.block h g (Array.getElem?_eq_some_iff.1 hg).1,hg]
section
variable {P : Program} {ops : Array Oper} {Q : Exit → Act → World → Prop} {md : Region.Mode}
def madeUpon (P : Program) (w : World) (v : Value) : Result Next → Prop
 | .ok (.value u) w' => u = v ∧ Ext w w'
 | .ok .skip w' => v = undef ∧ Ext w w'
 | .ok (.enter f args) w' => Calls P f args w' fun e w'' => e = .returned v ∧ Ext w w''
 | _ => False
def Made (P : Program) (o : Oper) (v : Value) (a : Act) (w : World) : Prop:=∀ W,Ext w W → madeUpon P W v ((execOp a.eval o).run P W)
theorem Made.ext {o : Oper} {v : Value} {a : Act} {w w' : World} (h : Made P o v a w) (k : Ext w w') : Made P o v a w':=fun W hW => h W (k.trans hW)
def YieldsE (P : Program) (ops : Array Oper) (o : Oper) (v : Value) (a : Act) (w : World) : Prop :=
 (Region.wanted o (yielded ops a.tmps) = true ∧ Made P o v a w) ∨ (Region.wanted o (yielded ops a.tmps) = false ∧ v = undef)
theorem YieldsE.of_same {o : Oper} {v : Value} {a a' : Act} {w w' : World} (hy : YieldsE P ops o v a w) (k : Ext w w') (he : execOp a'.eval o = execOp a.eval o)
  (hw : Region.wanted o (yielded ops a'.tmps) = Region.wanted o (yielded ops a.tmps)) : YieldsE P ops o v a' w':=by
 unfold YieldsE at *
 rw [hw]
 refine hy.imp (fun ⟨h1,h2⟩ => ⟨h1,?_⟩) id
 unfold Made at *
 rw [he]
 exact Made.ext h2 k
theorem Made.wp {o : Oper} {v : Value} {a : Act} {w W : World} (h : Made P o v a w) (k : Ext w W) {K : Act → World → Prop} (hK : ∀ W',Ext W W' → K (a.put o.dst v) W') : o.wp P a W K Q:=by
 have h1:=h W k
 unfold Oper.wp
 generalize (execOp a.eval o).run P W = r at *
 cases r with
 | ok n w' =>
  cases n <;> simp only [madeUpon] at h1 <;> simp only [Oper.upon]
  case value u => obtain ⟨rfl,e⟩:=h1; exact hK _ e
  case skip => obtain ⟨rfl,e⟩:=h1; exact hK _ e
  case enter f args => exact h1.mono fun e w'' ⟨he,hw⟩ => by subst he; exact hK _ hw
 | halt x w' => simp only [madeUpon] at h1
theorem YieldsE.wpOp {i : Nat} {o : Oper} {v : Value} {a : Act} {w W : World} (hi : ops[i]? = some o) (hy : YieldsE P ops o v a w) (k : Ext w W)
  {K : Act → World → Prop} (h : ∀ W',Ext W W' → K (a.put o.dst v) W') : wpOp P ops Q i K a W:=by
 unfold Go.wpOp
 simp only [hi]
 rcases hy with ⟨hw,hv⟩ | ⟨hw,rfl⟩
 ·
  simp only [hw,if_true]; exact .inl (hv.wp k h)
 ·
  simp only [hw,Bool.false_eq_true,if_false]; exact h W (Ext.refl W)
theorem wpOp_putE {j : Nat} {oi oj : Oper} {v : Value} (hj : ops[j]? = some oj) (hap : oi.apart ops oj = true)
  (hsi : ∀ cs b,oi.op ≠ .select cs b) (hsj : ∀ cs b,oj.op ≠ .select cs b)
  (hQ : ∀ c a w,Q (.panic c) (a.put oi.dst v) w → Q (.panic c) a w) {K : Act → World → Prop} {a : Act} {w : World}
  (hK : ∀ a' w',K a' w' → Ext w w') (hy : YieldsE P ops oi v a w) (h : wpOp P ops Q j K (a.put oi.dst v) w) :
  wpOp P ops Q j (fun a' w' => YieldsE P ops oi v a' w' ∧ K (a'.put oi.dst v) w') a w:=by
 obtain ⟨h1,h2,h3⟩:=Oper.apart_spec hap
 have keep : ∀ (a' : Act) (u : Value) (w' : World),YieldsE P ops oi v a' w → Ext w w' → YieldsE P ops oi v (a'.put oj.dst u) w':=fun a' u w' hy k =>
  hy.of_same k (execOp_put oi hsi a' oj.dst u h3) (wanted_put oi a' oj.dst u h3)
 have keepD : ∀ d,YieldsE P ops oi v { a with defers:=d :: a.defers } w:=fun d => hy.of_same (Ext.refl w) rfl rfl
 unfold wpOp at *
 simp only [hj] at *
 rw [wanted_put oj a oi.dst v h1] at h
 split
 ·
  rename_i hw
  simp only [hw,if_true] at h
  rcases h with h | ⟨hasks,hlets⟩
  case inr => exact .inr ⟨by unfold Oper.asks at *; rw [execOp_put oj hsj a oi.dst v h1] at hasks; exact hasks,hlets⟩
  refine .inl ?_
  unfold Oper.wp at *
  rw [execOp_put oj hsj a oi.dst v h1] at h
  generalize (execOp a.eval oj).run P w = r at *
  have fin : ∀ u w',K ((a.put oi.dst v).put oj.dst u) w' → YieldsE P ops oi v (a.put oj.dst u) w' ∧ K ((a.put oj.dst u).put oi.dst v) w':=fun u w' hk =>
   ⟨keep a u w' hy (hK _ _ hk),by rw [← Act.put_comm a v u h2]; exact hk⟩
  cases r with
  | ok n w' =>
   cases n <;> simp only [Oper.upon] at h ⊢
   case value u => exact fin u w' h
   case skip => exact fin undef w' h
   case defer d =>
    refine ⟨keep _ _ w' (keepD d) (hK _ _ h),?_⟩
    rw [← Act.put_comm _ v undef h2,← Act.put_defers]
    exact h
   case enter f args =>
    refine Calls.mono h fun e w'' he => ?_
    cases e with
    | returned u => exact fin u w'' he
    | panicked c => exact hQ _ _ _ he
    | outgrown => exact he
   case row row args => exact Rows.mono h fun u w'' he => fin u w'' he
  | halt x w' =>
   cases x <;> simp only [Oper.upon] at h ⊢
   case panic u => exact hQ _ _ _ h
 ·
  rename_i hw
  simp only [hw] at h
  exact ⟨keep a undef w hy (Ext.refl w),by rw [← Act.put_comm a v undef h2]; exact h⟩
def wpG (P : Program) (md : Region.Mode) (ops : Array Oper) (Q : Exit → Act → World → Prop) (n : Nat) : Nat → Array Bool → Act → World → Prop
 | 0,listed,a,w => Region.ready md ops listed = [] ∧ ∀ W,Ext w W → Q .normal a W
 | fuel + 1,listed,a,w =>
  (Region.ready md ops listed = [] → ∀ W,Ext w W → Q .normal a W) ∧
  ∀ i ∈ Region.ready md ops listed,∀ W,Ext w W → wpOp P ops Q i (fun a' W' => (i < n → Ext W W') ∧ wpG P md ops Q n fuel (listed.setIfInBounds i true) a' W') a W
theorem wpG.ext {n : Nat} : ∀ {f : Nat} {listed : Array Bool} {a : Act} {w w' : World},wpG P md ops Q n f listed a w → Ext w w' → wpG P md ops Q n f listed a w'
 | 0,_,_,_,_,h,k => ⟨h.1,fun W hW => h.2 W (k.trans hW)⟩
 | _ + 1,_,_,_,_,h,k => ⟨fun h0 W hW => h.1 h0 W (k.trans hW),fun i hi W hW => h.2 i hi W (k.trans hW)⟩
theorem zeh {n : Nat} : ∀ (f : Nat) (listed : Array Bool) (a : Act) (w : World),wpG P md ops Q n f listed a w → wpAny P md ops Q f listed a w
 | 0,_,_,w,h => ⟨h.1,h.2 w (Ext.refl w)⟩
 | f + 1,_,_,w,h => ⟨fun h0 => h.1 h0 w (Ext.refl w),fun i hi => wpOp_mono (fun a' w' hk => zeh f _ a' w' hk.2) (h.2 i hi w (Ext.refl w))⟩
def Closed (md : Region.Mode) (ops : Array Oper) (listed : Array Bool) : Prop :=
 listed.size = ops.size ∧ ∀ j oj,ops[j]? = some oj → listed.getD j false = true → ∀ e ∈ oj.after,Region.binds md e = true → listed.getD e.on false = true
theorem Closed.set {i : Nat} {listed : Array Bool} (inv : Closed md ops listed) (hi : i ∈ Region.ready md ops listed) : Closed md ops (listed.setIfInBounds i true):=by
 obtain ⟨_,oi,hoi,hall⟩:=mem_ready.1 hi
 refine ⟨by simp [inv.1],fun j oj hj hl e he hb => ?_⟩
 by_cases hij : i = j
 ·
  subst hij
  have : oj = oi:=Option.some.inj (hj.symm.trans hoi)
  subst this
  exact getD_set_true (hall e he hb)
 ·
  rw [getD_set_ne false hij] at hl
  exact getD_set_true (inv.2 j oj hj hl e he hb)
def lateB (md : Region.Mode) (ops : Array Oper) (m n : Nat) : Bool :=
 ((List.range (m - 1)).all fun i => (List.range m).any fun j => decide (i < j) && Region.waitsFor md ops j i) &&
 ((List.range ops.size).all fun t => decide (t < n) || Region.waitsFor md ops t (m - 1))
theorem late_one {m n : Nat} {listed : Array Bool} (hB : lateB md ops m n = true) (inv : Closed md ops listed) :
  ∀ (d i : Nat),m - 1 - i = d → i < m → listed.getD i false = false → listed.getD (m - 1) false = false:=by
 intro d
 induction d using Nat.strongRecOn with
 | _ d ih =>
  intro i hd hi hun
  by_cases hl : i = m - 1
  ·
   subst hl; exact hun
  ·
   simp only [lateB,Bool.and_eq_true] at hB
   have h1:=List.all_eq_true.1 hB.1 i (List.mem_range.2 (by omega))
   obtain ⟨j,hj,hj2⟩:=List.any_eq_true.1 h1
   simp only [Bool.and_eq_true,decide_eq_true_eq] at hj2
   have hjm:=List.mem_range.1 hj
   obtain ⟨oj,hoj,e,he,hb,hon⟩:=Region.waitsFor_spec hj2.2
   refine ih (m - 1 - j) (by omega) j rfl hjm ?_
   cases h2 : listed.getD j false with
   | false => rfl
   | true =>
    have h3:=inv.2 j oj hoj h2 e he hb
    rw [hon,hun] at h3
    cases h3
theorem late_spec {m n i : Nat} {listed : Array Bool} (hB : lateB md ops m n = true) (inv : Closed md ops listed) (hi : i < m) (hun : listed.getD i false = false)
  {t : Nat} (ht : t ∈ Region.ready md ops listed) : t < n:=by
 have h0:=late_one hB inv _ i rfl hi hun
 simp only [lateB,Bool.and_eq_true] at hB
 obtain ⟨_,ot,hot,hall⟩:=mem_ready.1 ht
 have h1:=List.all_eq_true.1 hB.2 t (List.mem_range.2 (Array.getElem?_eq_some_iff.1 hot).1)
 simp only [Bool.or_eq_true,decide_eq_true_eq] at h1
 rcases h1 with h1 | h1
 ·
  exact h1
 ·
  obtain ⟨o',ho',e,he,hb,hon⟩:=Region.waitsFor_spec h1
  have : o' = ot:=Option.some.inj (ho'.symm.trans hot)
  subst this
  have h2:=hall e he hb
  rw [hon,h0] at h2
  cases h2
theorem G_first {i m n : Nat} {oi : Oper} {v : Value} (hi : ops[i]? = some oi) (hsel : ∀ (j : Nat) (o : Oper) cs b,ops[j]? = some o → o.op ≠ .select cs b)
  (hQ : ∀ c a w,Q (.panic c) (a.put oi.dst v) w → Q (.panic c) a w) (hB : lateB md ops m n = true) (him : i < m) :
  ∀ (fuel : Nat) (listed : Array Bool) (a : Act) (w : World),Closed md ops listed →
   (∀ j oj,ops[j]? = some oj → j ≠ i → listed.getD j true = false → (∀ e ∈ oj.after,Region.binds md e = true → e.on ≠ i) → oi.apart ops oj = true) →
   i ∈ Region.ready md ops listed → YieldsE P ops oi v a w →
   wpG P md ops Q n fuel (listed.setIfInBounds i true) (a.put oi.dst v) w → wpG P md ops Q n (fuel + 1) listed a w:=by
 intro fuel
 induction fuel with
 | zero =>
  intro listed a w _ _ hr hy H
  refine ⟨fun h => (by rw [h] at hr; cases hr),fun j hj W hW => ?_⟩
  by_cases hji : j = i
  ·
   subst hji; exact hy.wpOp hi hW fun W' hW' => ⟨fun _ => hW',H.ext (hW.trans hW')⟩
  ·
   have:=ready_mono hj hji
   rw [H.1] at this
   cases this
 | succ fuel ih =>
  intro listed a w inv hfree hr hy H
  refine ⟨fun h => (by rw [h] at hr; cases hr),fun j hj W hW => ?_⟩
  by_cases hji : j = i
  ·
   subst hji; exact hy.wpOp hi hW fun W' hW' => ⟨fun _ => hW',H.ext (hW.trans hW')⟩
  ·
   have hun:=getD_both (mem_ready.1 hr).1
   have hjn : j < n:=late_spec hB inv him hun hj
   have h1:=H.2 j (ready_mono hj hji) W hW
   obtain ⟨hjun,oj,hoj,hall⟩:=mem_ready.1 hj
   have hnot : ∀ e ∈ oj.after,Region.binds md e = true → e.on ≠ i:=fun e he hb heq => by
    have h2:=hall e he hb
    rw [heq,hun] at h2
    cases h2
   have h2:=wpOp_putE hoj (hfree j oj hoj hji hjun hnot) (fun cs b => hsel i oi cs b hi) (fun cs b => hsel j oj cs b hoj) hQ (fun a' w' hk => hk.1 hjn)
    (hy.of_same hW rfl rfl) h1
   have hfree' : ∀ k ok,ops[k]? = some ok → k ≠ i → (listed.setIfInBounds j true).getD k true = false →
     (∀ e ∈ ok.after,Region.binds md e = true → e.on ≠ i) → oi.apart ops ok = true:=fun k ok hk hki hunk hno => by
    refine hfree k ok hk hki ?_ hno
    by_cases hjk : j = k
    ·
     subst hjk; exact hjun
    ·
     rw [getD_set_ne true hjk] at hunk; exact hunk
   refine wpOp_mono (fun a' w' h3 => ⟨h3.2.1,ih (listed.setIfInBounds j true) a' w' (inv.set hj) hfree' (ready_mono hr (Ne.symm hji)) h3.1 ?_⟩) h2
   rw [Array.setIfInBounds_comm _ _ hji]
   exact h3.2.2
/-! ### the walk in the text's order -/
def wpMk (P : Program) (ops : Array Oper) (w : World) (R : Act → Prop) : List Oper → Act → Prop
 | [],a => R a
 | o :: rest,a => ∃ v,YieldsE P ops o v a w ∧ wpMk P ops w R rest (a.put o.dst v)
theorem zad {w : World} {R : Act → Prop} {a : Act} {o : Oper} {rest : List Oper} (v : Value) (hg : o.guard = none) (hm : Made P o v a w) (h : wpMk P ops w R rest (a.put o.dst v)) : wpMk P ops w R (o :: rest) a :=
 ⟨v,.inl ⟨by simp [Region.wanted,hg],hm⟩,h⟩
theorem zbw {w : World} {R : Act → Prop} {a : Act} {o : Oper} {rest : List Oper} (v : Value) (hg : Region.wanted o (yielded ops a.tmps) = true) (hm : Made P o v a w) (h : wpMk P ops w R rest (a.put o.dst v)) : wpMk P ops w R (o :: rest) a :=
 ⟨v,.inl ⟨hg,hm⟩,h⟩
theorem zda {w : World} {R : Act → Prop} {a : Act} {o : Oper} {rest : List Oper} (hg : Region.wanted o (yielded ops a.tmps) = false) (h : wpMk P ops w R rest (a.put o.dst undef)) : wpMk P ops w R (o :: rest) a :=
 ⟨undef,.inr ⟨hg,rfl⟩,h⟩
def lexTo (md : Region.Mode) (ops : Array Oper) : Nat → Nat → Array Bool → Bool
 | 0,_,_ => true
 | f + 1,k,listed => (Region.ready md ops listed).contains k && Region.free md ops listed k && lexTo md ops f (k + 1) (listed.setIfInBounds k true)
def marked : Nat → Nat → Array Bool → Array Bool
 | 0,_,listed => listed
 | f + 1,k,listed => marked f (k + 1) (listed.setIfInBounds k true)
theorem G_lex {m n g : Nat} (hsel : Region.noSelect ops = true) (hQ : ∀ (o : Oper) v c a w,Q (.panic c) (a.put o.dst v) w → Q (.panic c) a w) (hB : lateB md ops m n = true) {w : World} {R : Act → Prop} {L : Array Bool}
  (hR : ∀ a,R a → wpG P md ops Q n g L a w) : ∀ (l : List Oper) (k : Nat) (listed : Array Bool) (a : Act),(∀ j,j < l.length → l[j]? = ops[k + j]?) → k + l.length = m → Closed md ops listed →
  lexTo md ops l.length k listed = true → marked l.length k listed = L → wpMk P ops w R l a → wpG P md ops Q n (l.length + g) listed a w
 | [],k,listed,a,_,_,_,_,hL,h => by
  have hL' : listed = L:=hL
  subst hL'
  simpa using hR a h
 | o :: l,k,listed,a,hl,hk,inv,hX,hL,h => by
  have h0 : ops[k]? = some o:=by simpa using (hl 0 (by simp)).symm
  simp only [List.length_cons,lexTo,Bool.and_eq_true] at hX
  obtain ⟨⟨hr,hf⟩,hX'⟩:=hX
  have hkm : k < m:=by simp only [List.length_cons] at hk; omega
  have hr' : k ∈ Region.ready md ops listed:=by simpa using hr
  obtain ⟨v,hy,hK⟩:=h
  rw [List.length_cons,show l.length + 1 + g = (l.length + g) + 1 by omega]
  exact G_first h0 (Region.noSelect_spec hsel) (hQ o v) hB hkm _ listed a w inv (Region.free_spec h0 hf) hr' hy
   (G_lex hsel hQ hB hR l (k + 1) _ _ (fun j hj => by have:=hl (j + 1) (by simp; omega); simpa [Nat.add_assoc,Nat.add_comm 1 j] using this) (by simp only [List.length_cons] at hk; omega) (inv.set hr') hX' hL hK)
def madeB (l : List Oper) (m n : Nat) : Bool :=
 Region.noSelect l.toArray && decide (m ≤ l.length) && lateB .any l.toArray m n && lexTo .any l.toArray m 0 (Array.replicate l.length false)
def Rest (P : Program) (l : List Oper) (Q : Exit → Act → World → Prop) (m n : Nat) (a : Act) (w : World) : Prop :=
 wpG P .any l.toArray Q n (l.length - m) (marked m 0 (Array.replicate l.length false)) a w
theorem zeg {id m : Nat} (n : Nat) {a : Act} {w : World} {l : List Oper} (hm : P.follows .mixedOrders = true) (hB : madeB l m n = true)
  (hQ : ∀ (o : Oper) v c a w,Q (.panic c) (a.put o.dst v) w → Q (.panic c) a w)
  (h : wpMk P l.toArray w (fun a' => Rest P l Q m n a' w) (l.take m) a) : (Code.region id l.toArray true).wp P Q a w:=by
 simp only [madeB,Bool.and_eq_true,decide_eq_true_eq] at hB
 obtain ⟨⟨⟨hsel,hml⟩,hlate⟩,hlex⟩:=hB
 have htl : (l.take m).length = m:=by simp; omega
 have inv0 : Closed .any l.toArray (Array.replicate l.length false) :=
  ⟨by simp,fun j oj _ hl => (by rw [getD_replicate_false] at hl; cases hl)⟩
 have H:=G_lex (P:=P) (md:=.any) (Q:=Q) (g:=l.length - m) (w:=w) hsel hQ hlate (R:=fun a' => Rest P l Q m n a' w) (L:=marked m 0 (Array.replicate l.length false)) (fun a' h => h) (l.take m) 0 (Array.replicate l.length false) a (fun j hj => by
  have hj' : j < m:=by rw [htl] at hj; exact hj
  simp [hj']) (by simpa using htl) inv0 (by rw [htl]; exact hlex) (by rw [htl]) h
 rw [htl,show m + (l.length - m) = l.length by omega] at H
 refine wp_region_any hm (zeh (n:=n) _ _ _ _ ?_)
 have:=wpG.ext H (Ext.drew w)
 simpa using this
/-! ### what stands behind them -/
theorem zax {i : Nat} {o : Oper} {K : Act → World → Prop} {a : Act} {w : World} (ho : ops[i]? = some o) (hg : o.guard = none) (h : o.wp P a w K Q) : wpOp P ops Q i K a w :=
 wpOp_step ho fun _ hK => by rw [if_pos (by simp [Region.wanted,hg])]; exact Oper.wp_mono hK h
theorem zcp {o : Oper} {a : Act} {w : World} {K : Act → World → Prop} {ty : TypeId} {zs : Array Value} {t : TypeId} (ho : o.op = .alloc ty)
  (hz : ∀ W,(Instr.alloc ty true (.tuple #[])).run P W = .ok (.pointer (some ⟨W.heap.size,0,none⟩)) (W.alloc (.cells zs t)))
  (h : K (a.put o.dst (.pointer (some ⟨w.heap.size,0,none⟩))) (w.alloc (.cells zs t))) : o.wp P a w K Q:=by
 unfold Oper.wp execOp
 simp only [ho,Sem.run_bind,hz w,Result.andThen_ok,Sem.run_pure]
 exact h
theorem zab (w : World) (o : Obj) : (w.alloc o).heap[w.heap.size]? = some o:=by
 show (w.heap.push o)[w.heap.size]? = _
 simp
theorem zae {w W : World} {g : Nat} (h : Ext w W) (hg : w.heap.size ≤ g) (cs : Array Value) : Ext w (W.setRow g cs):=zdd h hg cs
theorem zix {w W : World} {r : Nat} (h : But r w W) (cs : Array Value) : But r w (W.setRow r cs) :=
 ⟨h.os,h.tape,h.output,by simpa [World.setRow] using h.size,fun k hk hne => (zei W cs (by simpa using hne)).trans (h.block k hk hne)⟩
theorem but_ext {w W : World} {r : Nat} (h : Ext w W) : But r w W:=But.of_below h
abbrev ptrTo (g : Nat) : Value:=.pointer (some ⟨g,0,none⟩)
section
variable {l : List Oper} {m : Nat} {a : Act} {w : World} {ty t : TypeId} {zs cells old : Array Value} {d : Tmp} {y x : Operand} {r : Nat}
theorem zfg (hlen : l.length = m) (hr : Region.ready .any l.toArray (marked m 0 (Array.replicate l.length false)) = []) (h : ∀ W,Ext w W → Q .normal a W) : Rest P l Q m m a w:=by
 unfold Rest
 rw [hlen,Nat.sub_self]
 rw [hlen] at hr
 exact ⟨hr,h⟩
theorem rest_var (oa os : Oper) (hlen : l.length = m + 2) (hoa : l.toArray[m]? = some oa) (hos : l.toArray[m + 1]? = some os) (hoa2 : oa.op = .alloc ty) (ho : os.op = .store ty (.tmp d) y) (hda : oa.dst = some d) (hd : os.dst = none) (hga : oa.guard = none) (hg : os.guard = none)
  (hr : Region.ready .any l.toArray (marked m 0 (Array.replicate l.length false)) = [m]) (hr1 : Region.ready .any l.toArray (marked (m + 1) 0 (Array.replicate l.length false)) = [m + 1]) (hr2 : Region.ready .any l.toArray (marked (m + 2) 0 (Array.replicate l.length false)) = [])
  (hmk : (marked m 0 (Array.replicate l.length false)).setIfInBounds m true = marked (m + 1) 0 (Array.replicate l.length false))
  (hmk1 : (marked (m + 1) 0 (Array.replicate l.length false)).setIfInBounds (m + 1) true = marked (m + 2) 0 (Array.replicate l.length false))
  (hz : ∀ W,(Instr.alloc ty true (.tuple #[])).run P W = .ok (ptrTo W.heap.size) (W.alloc (.cells zs t)))
  (hx : ∀ g,(a.put (some d) (ptrTo g)).eval (.tmp d) = ptrTo g) (hy : ∀ g,(a.put (some d) (ptrTo g)).eval y = .agg cells) (hi : (P.info? ty).map (·.size) = some cells.size) (hold : zs.size = cells.size) (h1 : cells.all (·.oneCell') = true)
  (h : ∀ g W,w.heap.size ≤ g → W.heap[g]? = some (.cells cells t (0,0)) → Ext w W → Q .normal (a.put (some d) (ptrTo g)) W) : Rest P l Q m (m + 1) a w:=by
 unfold Rest
 rw [show l.length - m = 0 + 1 + 1 by omega]
 refine ⟨fun h0 => (by rw [hr] at h0; cases h0),fun i hi' W hW => ?_⟩
 rw [hr] at hi'
 obtain rfl : i = m:=by simpa using hi'
 refine zax hoa hga (zcp hoa2 hz ⟨fun _ => Ext.alloc _ _,?_⟩)
 rw [hmk,hda]
 refine ⟨fun h0 => (by rw [hr1] at h0; cases h0),fun j hj' W1 hW1 => ?_⟩
 rw [hr1] at hj'
 obtain rfl : j = i + 1:=by simpa using hj'
 refine zax hos hg (wp_store_row ty _ y ho W.heap.size cells (hx _) (hy _) t zs (hW1.block (zab _ _)) hi hold h1 ⟨fun h0 => absurd h0 (Nat.lt_irrefl _),?_⟩)
 rw [hmk1]
 refine ⟨hr2,fun W2 hW2 => ?_⟩
 rw [hd]
 exact h W.heap.size W2 (Below.size hW) (hW2.block (setRow_heap W1 _ zs cells t (0,0) (hW1.block (zab _ _)))) ((zae ((hW.trans (Ext.alloc _ _)).trans hW1) (Below.size hW) cells).trans hW2)
end
/-! ### a region in its own order -/
def PRest (P : Program) (l : List Oper) (Q : Exit → Act → World → Prop) (m : Nat) (a : Act) (w : World) : Prop:=∀ W,Ext w W → wpList P l.toArray Q (l.drop m) a W
theorem plain_lex {w : World} {R : Act → Prop} {rest : List Oper} (hR : ∀ a,R a → ∀ W,Ext w W → wpList P ops Q rest a W) : ∀ (l : List Oper) (a : Act),wpMk P ops w R l a → ∀ W,Ext w W → wpList P ops Q (l ++ rest) a W
 | [],a,h,W,hW => hR a h W hW
 | o :: l,a,⟨v,hy,hK⟩,W,hW => wpList_step fun K hK' => by
  rcases hy with ⟨hw,hv⟩ | ⟨hw,rfl⟩
  ·
   rw [if_pos hw]
   exact hv.wp hW fun W' hW' => hK' _ _ (plain_lex hR l _ hK W' (hW.trans hW'))
  ·
   rw [if_neg (by simp [hw])]
   exact hK' _ _ (plain_lex hR l _ hK W hW)
theorem wp_region_plain {id : Nat} (m : Nat) {a : Act} {w : World} {l : List Oper} (h : wpMk P l.toArray w (fun a' => PRest P l Q m a' w) (l.take m) a) : (Code.region id l.toArray false).wp P Q a w:=by
 refine wp_region_lit ?_
 have:=plain_lex (P:=P) (ops:=l.toArray) (Q:=Q) (w:=w) (rest:=l.drop m) (R:=fun a' => PRest P l Q m a' w) (fun a' h => h) (l.take m) a h w (Ext.refl w)
 rwa [List.take_append_drop] at this
section
variable {l : List Oper} {m : Nat} {a : Act} {w : World} {ty t : TypeId} {zs cells old : Array Value} {d : Tmp} {y x : Operand} {r : Nat}
theorem prest_store (os : Oper) (hl : l.drop m = [os]) (ho : os.op = .store ty x y) (hd : os.dst = none) (hg : os.guard = none)
  (hx : a.eval x = ptrTo r) (hy : a.eval y = .agg cells) (hb : w.heap[r]? = some (.cells old t (0,0))) (hi : (P.info? ty).map (·.size) = some cells.size) (hold : old.size = cells.size) (h1 : cells.all (·.oneCell') = true)
  (h : ∀ W,But r w W → W.heap[r]? = some (.cells cells t (0,0)) → Q .normal a W) : PRest P l Q m a w:=fun W hW => by
 rw [hl]
 refine wpList_plain hg fun K hK => wp_store_row ty x y ho r cells hx hy t old (hW.block hb) hi hold h1 (hK _ _ (wpList_nil ?_))
 rw [hd]
 exact h _ (zix (but_ext hW) cells) (setRow_heap W r old cells t (0,0) (hW.block hb))
theorem zcq {rest : List Oper} (oa os : Oper) (hoa2 : oa.op = .alloc ty) (ho : os.op = .store ty (.tmp d) y) (hda : oa.dst = some d) (hd : os.dst = none) (hga : oa.guard = none) (hg : os.guard = none)
  (hz : ∀ W,(Instr.alloc ty true (.tuple #[])).run P W = .ok (ptrTo W.heap.size) (W.alloc (.cells zs t)))
  (hx : ∀ g,(a.put (some d) (ptrTo g)).eval (.tmp d) = ptrTo g) (hy : ∀ g,(a.put (some d) (ptrTo g)).eval y = .agg cells) (hi : (P.info? ty).map (·.size) = some cells.size) (hold : zs.size = cells.size) (h1 : cells.all (·.oneCell') = true)
  (h : ∀ g W,w.heap.size ≤ g → W.heap[g]? = some (.cells cells t (0,0)) → Ext w W → wpList P ops Q rest (a.put (some d) (ptrTo g)) W) : wpList P ops Q (oa :: os :: rest) a w:=by
 refine wpList_plain hga fun K hK => zcp hoa2 hz (hK _ _ ?_)
 refine wpList_plain hg fun K hK => ?_
 rw [hda]
 refine wp_store_row ty _ y ho w.heap.size cells (hx _) (hy _) t zs (zab _ _) hi hold h1 (hK _ _ ?_)
 rw [hd]
 exact h w.heap.size _ (Nat.le_refl _) (setRow_heap _ _ zs cells t (0,0) (zab _ _)) (zae (Ext.alloc _ _) (Nat.le_refl _) cells)
theorem prest_var' {rest : List Oper} (oa os : Oper) (hl : l.drop m = oa :: os :: rest) (hoa2 : oa.op = .alloc ty) (ho : os.op = .store ty (.tmp d) y) (hda : oa.dst = some d) (hd : os.dst = none) (hga : oa.guard = none) (hg : os.guard = none)
  (hz : ∀ W,(Instr.alloc ty true (.tuple #[])).run P W = .ok (ptrTo W.heap.size) (W.alloc (.cells zs t)))
  (hx : ∀ g,(a.put (some d) (ptrTo g)).eval (.tmp d) = ptrTo g) (hy : ∀ g,(a.put (some d) (ptrTo g)).eval y = .agg cells) (hi : (P.info? ty).map (·.size) = some cells.size) (hold : zs.size = cells.size) (h1 : cells.all (·.oneCell') = true)
  (h : ∀ g W,w.heap.size ≤ g → W.heap[g]? = some (.cells cells t (0,0)) → Ext w W → wpList P l.toArray Q rest (a.put (some d) (ptrTo g)) W) : PRest P l Q m a w:=fun W hW => by
 rw [hl]
 exact zcq oa os hoa2 ho hda hd hga hg hz hx hy hi hold h1 fun g W' h1 h2 h3 => h g W' (Nat.le_trans (Below.size hW) h1) h2 (hW.trans h3)
theorem prest_var (oa os : Oper) (hl : l.drop m = [oa,os]) (hoa2 : oa.op = .alloc ty) (ho : os.op = .store ty (.tmp d) y) (hda : oa.dst = some d) (hd : os.dst = none) (hga : oa.guard = none) (hg : os.guard = none)
  (hz : ∀ W,(Instr.alloc ty true (.tuple #[])).run P W = .ok (ptrTo W.heap.size) (W.alloc (.cells zs t)))
  (hx : ∀ g,(a.put (some d) (ptrTo g)).eval (.tmp d) = ptrTo g) (hy : ∀ g,(a.put (some d) (ptrTo g)).eval y = .agg cells) (hi : (P.info? ty).map (·.size) = some cells.size) (hold : zs.size = cells.size) (h1 : cells.all (·.oneCell') = true)
  (h : ∀ g W,w.heap.size ≤ g → W.heap[g]? = some (.cells cells t (0,0)) → Ext w W → Q .normal (a.put (some d) (ptrTo g)) W) : PRest P l Q m a w:=fun W hW => by
 rw [hl]
 refine wpList_plain hga fun K hK => zcp hoa2 hz (hK _ _ ?_)
 refine wpList_plain hg fun K hK => ?_
 rw [hda]
 refine wp_store_row ty _ y ho W.heap.size cells (hx _) (hy _) t zs (zab _ _) hi hold h1 (hK _ _ (wpList_nil ?_))
 rw [hd]
 exact h W.heap.size _ (Below.size hW) (setRow_heap _ _ zs cells t (0,0) (zab _ _)) (zae (hW.trans (Ext.alloc _ _)) (Below.size hW) cells)
end
/-! ### the walk's frame,kept from the rest -/
theorem zjq {w : World} {R R' : Act → Prop} (h : ∀ a,R a → R' a) : ∀ {l : List Oper} {a : Act},wpMk P ops w R l a → wpMk P ops w R' l a
 | [],_,hh => h _ hh
 | _ :: _,_,⟨v,hy,hK⟩ => ⟨v,hy,zjq h hK⟩
theorem mk_ops {w : World} {R : Act → Prop} : ∀ {l : List Oper} {a : Act},(l.all fun o => o.guard.isNone) = true → wpMk P #[] w R l a → wpMk P ops w R l a
 | [],_,_,hh => hh
 | o :: l,a,hg,⟨v,hy,hK⟩ => by
  simp only [List.all_cons,Bool.and_eq_true,Option.isNone_iff_eq_none] at hg
  refine ⟨v,?_,mk_ops hg.2 hK⟩
  have h1 : ∀ X : Array Oper,Region.wanted o (yielded X a.tmps) = true:=fun X => by simp [Region.wanted,hg.1]
  rcases hy with ⟨_,hm⟩ | ⟨hw,_⟩
  ·
   exact .inl ⟨h1 _,hm⟩
  ·
   rw [h1] at hw; cases hw
theorem wp_made {id m : Nat} {A : Act} (n : Nat) {a : Act} {w : World} {l : List Oper} (hm : P.follows .mixedOrders = true) (hB : madeB l m n = true) (hg : ((l.take m).all fun o => o.guard.isNone) = true)
  (h : wpMk P #[] w (fun a' => a' = A) (l.take m) a) (h2 : Rest P l (NoPanic Q) m n A w) : (Code.region id l.toArray true).wp P Q a w :=
 wp_region_noPanic (zeg n hm hB (fun _ _ _ _ _ h => h) (mk_ops hg (zjq (fun a' e => by subst e; exact h2) h)))
theorem zja {id m : Nat} {A : Act} {a : Act} {w : World} {l : List Oper} (hg : ((l.take m).all fun o => o.guard.isNone) = true)
  (h : wpMk P #[] w (fun a' => a' = A) (l.take m) a) (h2 : PRest P l Q m A w) : (Code.region id l.toArray false).wp P Q a w :=
 wp_region_plain m (mk_ops hg (zjq (fun a' e => by subst e; exact h2) h))
theorem zgf {id m : Nat} {A : Act} (n : Nat) {a : Act} {w : World} {l : List Oper} (hm : P.follows .mixedOrders = true) (hB : madeB l m n = true)
  (h : wpMk P l.toArray w (fun a' => a' = A) (l.take m) a) (h2 : Rest P l (NoPanic Q) m n A w) : (Code.region id l.toArray true).wp P Q a w :=
 wp_region_noPanic (zeg n hm hB (fun _ _ _ _ _ h => h) (zjq (fun a' e => by subst e; exact h2) h))
theorem zdx {w : World} {a : Act} : wpMk P ops w (fun a' => a' = a) [] a:=rfl
/-! ### operations -/
section
variable {o : Oper} {a : Act} {w : World}
theorem zbg {v : Value} (h : ∀ W,Ext w W → (execOp a.eval o).run P W = .ok (.value v) W) : Made P o v a w:=fun W hW => by
 rw [h W hW]
 exact ⟨rfl,Ext.refl W⟩
theorem made_call {v : Value} {f : FuncId} {args : Array Value} (h : ∀ W,(execOp a.eval o).run P W = .ok (.enter f args) W) (hc : ∀ W,Ext w W → Calls P f args W fun e W' => e = .returned v ∧ Ext W W') : Made P o v a w:=fun W hW => by
 rw [h W]
 exact hc W hW
theorem zaz {ty : TypeId} {x : Operand} {g off t : Nat} {C : Array Value} {cs : List Value} {fr : Nat × Nat} {d : TypeDesc} (ho : o.op = .load ty x) (hx : a.eval x = .pointer (some ⟨g,off,none⟩)) (hb : w.heap[g]? = some (.cells C t fr))
  (hcs : (C.toList.drop off).take cs.length = cs) (hu : P.underlying ty = some d) (hd : d.isRow = true) (hi : (P.info? ty).map (·.size) = some cs.length) : Made P o (.agg cs.toArray) a w:=zbg fun W hW => by
 have hr : W.rangeAt g off cs:=fun j v hv => by
  rw [cell_of_row W g (off + j) C t fr (hW.block hb)]
  have hj : j < cs.length:=(List.getElem?_eq_some_iff.1 hv).1
  rw [← hcs,List.getElem?_take_of_lt hj,List.getElem?_drop] at hv
  simpa using hv
 unfold execOp
 simp only [ho,hx,Instr.loadAt,Instr.sureAddr,Sem.run_bind,Sem.run_pure,Result.andThen_ok,run_loadVar_mid W g off ty cs d hr hu hd hi]
theorem zii {ty : TypeId} {x : Operand} {g off t : Nat} {C : Array Value} {v : Value} {fr : Nat × Nat} (ho : o.op = .load ty x) (hx : a.eval x = .pointer (some ⟨g,off,none⟩)) (hb : w.heap[g]? = some (.cells C t fr))
  (hcs : C[off]? = some v) (hn : ∀ W,(isAgg ty).run P W = .ok false W) : Made P o v a w:=zbg fun W hW => by
 have hr : W.cell? ⟨g,off,none⟩ = some v:=by rw [cell_of_row W g off C t fr (hW.block hb),hcs]
 have hl : (load ⟨g,off,none⟩).run P W = .ok v W:=by simp [go_sem,hr]
 unfold execOp
 simp only [ho,hx,Instr.loadAt,Instr.sureAddr,Sem.run_bind,Sem.run_pure,Result.andThen_ok,loadVar,hn W,Bool.false_eq_true,if_false,hl]
theorem zdi {s : TypeId} {x : Operand} {f g off : Nat} (ho : o.op = .fieldAddr s x f) (hx : a.eval x = ptrTo g) (hf : ∀ W,(Instr.fieldAt s (ptrTo g) f).run P W = .ok (.pointer (some ⟨g,off,none⟩)) W) : Made P o (.pointer (some ⟨g,off,none⟩)) a w:=zbg fun W _ => by
 unfold execOp
 simp only [ho,hx,Sem.run_bind,hf W,Result.andThen_ok,Sem.run_pure]
theorem zbm {x : Operand} {v : Value} (ho : o.op = .move x ∨ o.op = .assign x) (hx : a.eval x = v) : Made P o v a w:=zbg fun W _ => by
 unfold execOp
 rcases ho with ho | ho <;> simp only [ho,hx,Sem.run_pure]
theorem zij {ty : TypeId} {parts : List (Nat × Operand)} {vs : List (Nat × Value)} {v : Value} (ho : o.op = .build ty parts.toArray) (hx : parts.map (fun p => (p.1,a.eval p.2)) = vs)
  (hb : ∀ W,(Instr.build ty vs.toArray).run P W = .ok v W) : Made P o v a w:=zbg fun W _ => by
 unfold execOp
 simp only [ho,List.map_toArray]
 rw [show (parts.map fun x => match x with | (i,x) => (i,a.eval x)) = vs from hx]
 simp only [Sem.run_bind,hb W,Result.andThen_ok,Sem.run_pure]
theorem zfm {c x y : Operand} {b : Bool} {v : Value} (ho : o.op = .pick c x y) (hc : a.eval c = .bool b) (hx : (if b then a.eval x else a.eval y) = v) : Made P o v a w:=zbg fun W _ => by
 unfold execOp
 simp only [ho]
 generalize a.eval = ρ at *
 subst hx
 rw [hc]
 cases b <;> simp [go_sem,asBool]
theorem made_not {ty : TypeId} {x : Operand} {b : Bool} (ho : o.op = .unOp .not ty x) (hx : a.eval x = .bool b) : Made P o (.bool (!b)) a w:=zbg fun W _ => by
 unfold execOp
 simp only [ho]
 generalize a.eval = ρ at *
 rw [hx]
 simp [go_sem,Op.unary]
theorem made_ext {x : Operand} {i : Nat} {vs : Array Value} {v : Value} (ho : o.op = .extract x i) (hx : a.eval x = .tuple vs) (hv : vs[i]? = some v) : Made P o v a w:=zbg fun W _ => by
 unfold execOp
 simp only [ho]
 generalize a.eval = ρ at *
 rw [hx]
 simp [Instr.extract,go_sem,hv]
end
end
end Go.Proofs.YtbfkecfcolcclaaGreatDoor
