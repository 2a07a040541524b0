/-
  Of Len Q10 PS S0 S3 S4 FMath FBase Mul64 MulMath Q13 Kp Made3 ArgS ArgN ArgP ArgM Svm Svn Svo.
-/
import Derived.BigRegion
import Derived.Deep.QuietTactic
import Derived.BigQuiet
import Derived.Deep.RegionWith
import Derived.Test.YtbfkecfcolcclaaGreatDoorRows
import Derived.WalkKit
import Derived.WalkSpells
import Derived.WalkLawsBesides
import Derived.Deep.CutRange
import Derived.Deep.RegionHeld3
import Derived.Deep.Cut
import Derived.Deep.LoopGhost
import Derived.Deep.MidRow
import Derived.Laws.OwnMore
import Derived.Deep.AppendLies
import Derived.Lib.SmallJoins
import Derived.Carry
import Derived.Test.YtbfkecfcolcclaaGreatDoorZC7
import Derived.Test.YtbfkecfcolcclaaGreatDoorZC3
import Derived.Test.YtbfkecfcolcclaaGreatDoorZC2
import Derived.Test.YtbfkecfcolcclaaGreatDoorZC1
import Derived.Test.YtbfkecfcolcclaaGreatDoorZC4
import Derived.Test.YtbfkecfcolcclaaGreatDoorZC6
import Derived.Test.YtbfkecfcolcclaaGreatDoorZC5
set_option maxRecDepth 1000000
set_option maxHeartbeats 20000000
namespace Go.Proofs.YtbfkecfcolcclaaGreatDoor
open Go.RowKit
open Go.Value renaming int → vI
open Go.IntKind renaming u64 → vU
open Go.Act renaming put → aP
open List renaming setIfInBounds_toArray → lA, set_cons_zero → lZ, set_cons_succ → lS
theorem zcw {a b : Int} (h : a = b) : Ending.returned (.int .i64 a) = .returned (.int .i64 b):=by rw [h]
theorem zck (k i : Nat) (hi : i < 256) (hk : k ≤ 56) : wrap64 ((k : Int) + wrap64 (bitLen i : Int)) = ((k + bitLen i : Nat) : Int):=by
 have:=bitLen_le8 i hi
 rw [IntWalk.wrap64_in (bitLen i : Int) (by omega),IntWalk.wrap64_in _ (by omega)]
 omega
theorem zcf (x b : Nat) (h : 2 ^ b ≤ x) : bitLen x = b + bitLen (x / 2 ^ b) :=
 bitLen_shift x b (by have:=Nat.div_pos h (Nat.two_pow_pos b); omega)
theorem len64_0 (x : Int) (hl : 0 ≤ x) (hu : x ≤ 255) (w : World) : Calls Tryz.prog 114 #[vI vU x] w fun e w' => e = .returned (.int .i64 (bitLen x.toNat)) ∧ w' = w:=by
 have h1 : x ≤ 4294967295:=by omega
 have h2 : x ≤ 65535:=by omega
 have h3 : x ≤ 255:=by omega
 have h0 : 0 ≤ x:=by omega
 clear hu hl
 go_enter Tryz.func114,Tryz.ntmps114
 go_wp2
 go_ret
 refine ⟨zcw ?_,rfl⟩
 rw [len8tab_get]
 have h:=zck 0 x.toNat (by omega) (by omega)
 simpa using h
theorem len64_8 (x : Int) (hl : 256 ≤ x) (hu : x ≤ 65535) (w : World) : Calls Tryz.prog 114 #[vI vU x] w fun e w' => e = .returned (.int .i64 (bitLen x.toNat)) ∧ w' = w:=by
 have h1 : x ≤ 4294967295:=by omega
 have h2 : x ≤ 65535:=by omega
 have h3 : (256 : Int) ≤ x:=by omega
 have h4 : x / 256 ≤ 255:=by omega
 have h0 : 0 ≤ x:=by omega
 clear hu hl
 go_enter Tryz.func114,Tryz.ntmps114
 go_wp2
 go_ret
 refine ⟨zcw ?_,rfl⟩
 rw [len8tab_get]
 have e : (x / 256).toNat = x.toNat / 2 ^ 8:=by show _ = x.toNat / 256; omega
 rw [e,zcf x.toNat 8 (by show 256 ≤ x.toNat; omega)]
 exact zck 8 _ (by rw [← e]; omega) (by omega)
theorem len64_16 (x : Int) (hl : 65536 ≤ x) (hu : x ≤ 16777215) (w : World) : Calls Tryz.prog 114 #[vI vU x] w fun e w' => e = .returned (.int .i64 (bitLen x.toNat)) ∧ w' = w:=by
 have h1 : x ≤ 4294967295:=by omega
 have h2 : (65536 : Int) ≤ x:=by omega
 have h3 : x / 65536 ≤ 255:=by omega
 have h0 : 0 ≤ x:=by omega
 clear hu hl
 go_enter Tryz.func114,Tryz.ntmps114
 go_wp2
 go_ret
 refine ⟨zcw ?_,rfl⟩
 rw [len8tab_get]
 have e : (x / 65536).toNat = x.toNat / 2 ^ 16:=by show _ = x.toNat / 65536; omega
 rw [e,zcf x.toNat 16 (by show 65536 ≤ x.toNat; omega)]
 exact zck 16 _ (by rw [← e]; omega) (by omega)
theorem len64_24 (x : Int) (hl : 16777216 ≤ x) (hu : x ≤ 4294967295) (w : World) : Calls Tryz.prog 114 #[vI vU x] w fun e w' => e = .returned (.int .i64 (bitLen x.toNat)) ∧ w' = w:=by
 have h1 : x ≤ 4294967295:=by omega
 have h2 : (65536 : Int) ≤ x:=by omega
 have h3 : (256 : Int) ≤ x / 65536:=by omega
 have h4 : x / 65536 / 256 ≤ 255:=by omega
 have h0 : 0 ≤ x:=by omega
 clear hu hl
 go_enter Tryz.func114,Tryz.ntmps114
 go_wp2
 go_ret
 refine ⟨zcw ?_,rfl⟩
 rw [len8tab_get]
 have e : (x / 65536 / 256).toNat = x.toNat / 2 ^ 24:=by show _ = x.toNat / 16777216; omega
 rw [e,zcf x.toNat 24 (by show 16777216 ≤ x.toNat; omega)]
 exact zck 24 _ (by rw [← e]; omega) (by omega)
theorem len64_32 (x : Int) (hl : 4294967296 ≤ x) (hu : x ≤ 1099511627775) (w : World) : Calls Tryz.prog 114 #[vI vU x] w fun e w' => e = .returned (.int .i64 (bitLen x.toNat)) ∧ w' = w:=by
 have h1 : (4294967296 : Int) ≤ x:=by omega
 have h2 : x / 4294967296 ≤ 65535:=by omega
 have h3 : x / 4294967296 ≤ 255:=by omega
 have h0 : 0 ≤ x:=by omega
 clear hu hl
 go_enter Tryz.func114,Tryz.ntmps114
 go_wp2
 go_ret
 refine ⟨zcw ?_,rfl⟩
 rw [len8tab_get]
 have e : (x / 4294967296).toNat = x.toNat / 2 ^ 32:=by show _ = x.toNat / 4294967296; omega
 rw [e,zcf x.toNat 32 (by show 4294967296 ≤ x.toNat; omega)]
 exact zck 32 _ (by rw [← e]; omega) (by omega)
theorem len64_40 (x : Int) (hl : 1099511627776 ≤ x) (hu : x ≤ 281474976710655) (w : World) : Calls Tryz.prog 114 #[vI vU x] w fun e w' => e = .returned (.int .i64 (bitLen x.toNat)) ∧ w' = w:=by
 have h1 : (4294967296 : Int) ≤ x:=by omega
 have h2 : x / 4294967296 ≤ 65535:=by omega
 have h3 : (256 : Int) ≤ x / 4294967296:=by omega
 have h4 : x / 4294967296 / 256 ≤ 255:=by omega
 have h0 : 0 ≤ x:=by omega
 clear hu hl
 go_enter Tryz.func114,Tryz.ntmps114
 go_wp2
 go_ret
 refine ⟨zcw ?_,rfl⟩
 rw [len8tab_get]
 have e : (x / 4294967296 / 256).toNat = x.toNat / 2 ^ 40:=by show _ = x.toNat / 1099511627776; omega
 rw [e,zcf x.toNat 40 (by show 1099511627776 ≤ x.toNat; omega)]
 exact zck 40 _ (by rw [← e]; omega) (by omega)
theorem len64_48 (x : Int) (hl : 281474976710656 ≤ x) (hu : x ≤ 72057594037927935) (w : World) : Calls Tryz.prog 114 #[vI vU x] w fun e w' => e = .returned (.int .i64 (bitLen x.toNat)) ∧ w' = w:=by
 have h1 : (4294967296 : Int) ≤ x:=by omega
 have h2 : (65536 : Int) ≤ x / 4294967296:=by omega
 have h3 : x / 4294967296 / 65536 ≤ 255:=by omega
 have h0 : 0 ≤ x:=by omega
 clear hu hl
 go_enter Tryz.func114,Tryz.ntmps114
 go_wp2
 go_ret
 refine ⟨zcw ?_,rfl⟩
 rw [len8tab_get]
 have e : (x / 4294967296 / 65536).toNat = x.toNat / 2 ^ 48:=by show _ = x.toNat / 281474976710656; omega
 rw [e,zcf x.toNat 48 (by show 281474976710656 ≤ x.toNat; omega)]
 exact zck 48 _ (by rw [← e]; omega) (by omega)
theorem len64_56 (x : Int) (hl : 72057594037927936 ≤ x) (hu : x ≤ 18446744073709551615) (w : World) : Calls Tryz.prog 114 #[vI vU x] w fun e w' => e = .returned (.int .i64 (bitLen x.toNat)) ∧ w' = w:=by
 have h1 : (4294967296 : Int) ≤ x:=by omega
 have h2 : (65536 : Int) ≤ x / 4294967296:=by omega
 have h3 : (256 : Int) ≤ x / 4294967296 / 65536:=by omega
 have h4 : x / 4294967296 / 65536 / 256 ≤ 255:=by omega
 have h0 : 0 ≤ x:=by omega
 clear hu hl
 go_enter Tryz.func114,Tryz.ntmps114
 go_wp2
 go_ret
 refine ⟨zcw ?_,rfl⟩
 rw [len8tab_get]
 have e : (x / 4294967296 / 65536 / 256).toNat = x.toNat / 2 ^ 56:=by show _ = x.toNat / 72057594037927936; omega
 rw [e,zcf x.toNat 56 (by show 72057594037927936 ≤ x.toNat; omega)]
 exact zck 56 _ (by rw [← e]; omega) (by omega)
theorem len64_calls (x : Int) (h0 : 0 ≤ x) (h1 : x ≤ 18446744073709551615) (w : World) : Calls Tryz.prog 114 #[vI vU x] w fun e w' => e = .returned (.int .i64 (bitLen x.toNat)) ∧ w' = w:=by
 by_cases a : x ≤ 4294967295
 ·
  by_cases b : x ≤ 65535
  ·
   by_cases c : x ≤ 255
   ·
    exact len64_0 x (by omega) (by omega) w
   ·
    exact len64_8 x (by omega) (by omega) w
  ·
   by_cases c : x ≤ 16777215
   ·
    exact len64_16 x (by omega) (by omega) w
   ·
    exact len64_24 x (by omega) (by omega) w
 ·
  by_cases b : x ≤ 281474976710655
  ·
   by_cases c : x ≤ 1099511627775
   ·
    exact len64_32 x (by omega) (by omega) w
   ·
    exact len64_40 x (by omega) (by omega) w
  ·
   by_cases c : x ≤ 72057594037927935
   ·
    exact len64_48 x (by omega) (by omega) w
   ·
    exact len64_56 x (by omega) (by omega) w
theorem high_zero {X m : Nat} (hX : X < top) (h : ∀ j,m ≤ j → j < 4 → dg w64 X j = 0) : X < w64 ^ m:=by
 have hp : 0 < w64 ^ m:=Nat.pow_pos zak
 have e : X % w64 ^ 4 = X % w64 ^ m % w64 ^ 4:=zha zak 4 fun i hi => by
  by_cases hlt : i < m
  ·
   rw [zcs X m i hlt]
  ·
   rw [h i (by omega) hi]
   unfold dg
   rw [Nat.div_eq_of_lt (Nat.lt_of_lt_of_le (Nat.mod_lt _ hp) (Nat.pow_le_pow_right zak (by omega)))]
   rfl
 rw [Nat.mod_eq_of_lt (show X < w64 ^ 4 from hX)] at e
 have h1:=Nat.mod_le (X % w64 ^ m) (w64 ^ 4)
 have h2:=Nat.mod_lt X hp
 omega
theorem len_word {X m : Nat} (hX : X < top) (h : ∀ j,m + 1 ≤ j → j < 4 → dg w64 X j = 0) (hne : dg w64 X m ≠ 0) : bitLen X = 64 * m + bitLen (dg w64 X m):=by
 have hlt:=high_zero hX h
 have hd : X / w64 ^ m = dg w64 X m:=by
  rw [dg,Nat.mod_eq_of_lt]
  rw [Nat.div_lt_iff_lt_mul (Nat.pow_pos zak),Nat.mul_comm,← Nat.pow_succ]
  exact hlt
 have e : 2 ^ (64 * m) = w64 ^ m:=by rw [w64_two,← Nat.pow_mul]
 rw [← hd] at hne ⊢
 have h1:=bitLen_shift X (64 * m) (by rw [e]; exact hne)
 rw [e] at h1
 exact h1
theorem wd_toNat (X i : Nat) : (wd X i).toNat = dg w64 X i:=by unfold wd; omega
theorem bitLen_le64 (X i : Nat) : bitLen (dg w64 X i) ≤ 64:=by
 unfold bitLen
 split
 ·
  omega
 ·
  rename_i h
  have:=(Nat.log2_lt h).2 (show dg w64 X i < 2 ^ 64 from dg_lt zak X i)
  omega
theorem len_calls (X : Nat) (hX : X < top) (w : World) :
  Calls Tryz.prog 186 #[.agg #[vI vU (wd X 0),vI vU (wd X 1),vI vU (wd X 2),vI vU (wd X 3)]] w fun e w' => e = .returned (.int .i64 (bitLen X)) ∧ Below w.heap.size w w':=by
 go_enter Tryz.func186,Tryz.ntmps186
 go_wp2
 go_loopw [3] (fun i wr => ∃ k : Nat,k ≤ 4 ∧ i = .int .i64 ((k : Int) - 1) ∧ (∀ j,k ≤ j → j < 4 → dg w64 X j = 0) ∧ wr.rowIs w.heap.size 58 4 (fun j => .int .u64 (wd X j)) ∧ Below w.heap.size w wr)
  (fun i _ => (intOf i + 1).toNat)
 case atStart => exact ⟨4,by omega,rfl,by intro j h1 h2; omega,zaf (n:=4) (by simp) rfl (arr4 fun j => .int .u64 (wd X j)),(Below.refl _ _).alloc (by simp) _⟩
 case round =>
  obtain ⟨k,hk,hi,hall,hR,hbel⟩:=hrel
  have HALL:=veil hall
  clear hall
  cases k with
  | zero =>
   subst hi
   have h1:=high_zero hX HALL.out
   have hX0 : X = 0:=by simpa using h1
   have HX:=veil hX0
   clear hX0 h1
   go_wp2
   go_ret
   rw [show bitLen X = 0 by rw [HX.out]; rfl]
   exact ⟨rfl,hbel⟩
  | succ m =>
   obtain rfl : _ = Value.int .i64 (m : Int):=hi.trans (by congr 1; omega)
   have hm : m < 4:=by omega
   clear hi
   have c1:=hR.cell hm
   have l1:=wd_lo X m
   have u1:=wd_le X m
   by_cases h : dg w64 X m = 0
   ·
    have hz : (wd X m != 0) = false:=by unfold wd; rw [h]; rfl
    go_wp2
    go_roundw
    case rel => exact ⟨m,by omega,rfl,fun j h1 h2 => by
     by_cases e : j = m
     ·
      rw [e]; exact h
     ·
      exact HALL.out j (by omega) h2,hR,hbel⟩
    case measure => simp [intOf]
   ·
    have hz : (wd X m != 0) = true:=by rw [bne_iff_ne]; unfold wd; omega
    have hw:=len_word hX HALL.out h
    have hb:=bitLen_le64 X m
    have ht:=wd_toNat X m
    have HW:=veil hw
    have HT:=veil ht
    clear hw h ht
    go_wp2_with (go_at_call 114; refine (len64_calls _ l1 u1 _).mono ?_; rintro e w' ⟨rfl,rfl⟩)
    rw [HT.out]
    go_wp2
    go_ret
    rw [HW.out]
    exact ⟨zcw (by rw [IntWalk.wrap64_in _ (by omega)]; omega),hbel⟩
theorem top_256 : top = 2 ^ 256:=by unfold top; rw [w64_two,← Nat.pow_mul]
theorem bl_le {X : Nat} (hX : X < top) : bitLen X ≤ 256:=by
 unfold bitLen
 split
 ·
  omega
 ·
  rename_i h
  have:=(Nat.log2_lt h).2 (show X < 2 ^ 256 by rw [← top_256]; exact hX)
  omega
theorem bl_div (X : Nat) : X / 2 ^ bitLen X = 0:=Nat.div_eq_of_lt (bitLen_spec X).1
theorem times_step (K m : Nat) (q : Pt.Q) : Pt.grp.mul (K / 2 ^ m) q = if bit K m = true then Pt.grp.op (Pt.grp.op (Pt.grp.mul (K / 2 ^ (m + 1)) q) (Pt.grp.mul (K / 2 ^ (m + 1)) q)) q else Pt.grp.op (Pt.grp.mul (K / 2 ^ (m + 1)) q) (Pt.grp.mul (K / 2 ^ (m + 1)) q):=by
 rw [Pt.mul_top]
 have hb : (bit K m = true) = (K / 2 ^ m % 2 = 1):=by unfold bit; simp
 simp only [hb]
def cQ (X Y : Nat) (f : Bool) : List SV:=cN X ++ (cN Y ++ [.v (.bool f)])
section
variable {w0 : World} {Post : Value → World → Prop} {J : World → Prop}
end
end Go.Proofs.YtbfkecfcolcclaaGreatDoor
namespace Go.Proofs.YtbfkecfcolcclaaGreatDoor.Pt
theorem nn_big : 3 < nn:=by decide +kernel
theorem nn_root : ∃ g : Fin nn,Root g:=by
 obtain ⟨ps,hp,h⟩:=(tab_pr tab [2] two_only tab_ok (0xffffffff00000000ffffffffffffffffbce6faada7179e84f3b9cac2fc632551,7,[2,2,2,2,3,71,131,373,3407,17449,38189,187019741,622491383,1002328039319,2624747550333869278416773953]) (by decide +kernel)).2
 exact ⟨_,(row_root (n:=nn) hp h).2⟩
abbrev Ne:=Fin nn
theorem nn_one : 1 < nn:=by have:=nn_big; omega
section
variable {n : Nat} [NeZero n]
theorem uniq_inv {x y z : Fin n} (h1 : x * y = 1) (h2 : x * z = 1) : y = z:=by
 have e : y = y * (x * z):=by rw [h2,zex]
 rw [e,← zdk,zeb y x,h1,zea]
theorem F_vlt {a : Nat} (h : a < n) : (F a : Fin n).val = a:=Nat.mod_eq_of_lt h
theorem F_mul_one (hn : 1 < n) {a t : Nat} (h : a * t % n = 1) : (F a : Fin n) * F t = 1:=by
 rw [← F_mul]
 apply Fin.ext
 rw [val_one hn]
 exact h
def gi (x : Fin n) : Fin n:=pf x (n - 2)
theorem gi_mul (hr : ∃ g : Fin n,Root g) (hn : 1 < n) {x : Fin n} (h : x ≠ 0) : x * gi x = 1:=by
 obtain ⟨g,hg⟩:=hr
 exact zfr hg hn h
theorem gi_of (hr : ∃ g : Fin n,Root g) (hn : 1 < n) {x t : Fin n} (h : x * t = 1) : t = gi x:=by
 have hx : x ≠ 0:=by
  rintro rfl
  have e : (0 : Fin n) * t = 0:=by grobner
  rw [e] at h
  have h2:=congrArg Fin.val h
  rw [Fin.val_zero,val_one hn] at h2
  exact absurd h2 (by decide)
 exact uniq_inv h (gi_mul hr hn hx)
end
section
variable (n : Nat) [NeZero n]
def iG (a : Nat) : Nat:=(gi (F a : Fin n)).val
theorem iG_lt (a : Nat) : iG n a < n:=(gi (F a : Fin n)).isLt
theorem iG_of (hr : ∃ g : Fin n,Root g) (hn : 1 < n) {a t : Nat} (ht : t < n) (h : a * t % n = 1) : t = iG n a:=by
 have e2:=congrArg Fin.val (gi_of hr hn (F_mul_one hn h))
 rw [F_vlt ht] at e2
 exact e2
omit [NeZero n] in
theorem gcd_of (hp : ∀ d,d ∣ n → d = 1 ∨ d = n) {a : Nat} (h0 : a ≠ 0) (h : a < n) : Nat.gcd a n = 1:=by
 rcases hp _ (Nat.gcd_dvd_right a n) with h1 | h1
 ·
  exact h1
 ·
  exfalso
  have h2:=Nat.gcd_dvd_left a n
  rw [h1] at h2
  have h3:=Nat.le_of_dvd (Nat.pos_of_ne_zero h0) h2
  omega
end
theorem gcd_nn {a : Nat} (h0 : a ≠ 0) (h : a < nn) : Nat.gcd a nn = 1:=gcd_of nn nn_pr.2 h0 h
/-! ### multiples -/
/-! ### signatures -/
def rOf (k : Nat) : Nat:=pX (grp.mul k base).1 % nn
def sOf (d e k : Nat) : Nat:=iG nn k * ((e % nn + rOf k * d % nn) % nn) % nn
def inR (x : Nat) : Bool:=decide (x ≠ 0) && decide (x < nn)
theorem inR_iff (x : Nat) : inR x = true ↔ x ≠ 0 ∧ x < nn:=by simp [inR]
def sumOf (q : Q) (e r s : Nat) : Q:=grp.op (grp.mul (e % nn * iG nn s % nn) base) (grp.mul (r * iG nn s % nn) q)
def verB (q : Q) (e r s : Nat) : Bool:=!pFar q.1 && inR r && inR s && !pFar (sumOf q e r s).1 && decide (pX (sumOf q e r s).1 % nn = r)
end Go.Proofs.YtbfkecfcolcclaaGreatDoor.Pt
namespace Go.Proofs.YtbfkecfcolcclaaGreatDoor
open Go.RowKit
open Go.Value renaming int → vI
open Go.IntKind renaming u64 → vU
open Go.Act renaming put → aP
open List renaming setIfInBounds_toArray → lA, set_cons_zero → lZ, set_cons_succ → lS
/-! ### points -/
def pv (q : Pt.Q) : Value:=qv (Pt.pX q.1) (Pt.pY q.1) (Pt.pFar q.1)
theorem base_x : Pt.pX Pt.base.1 = Pt.gx ∧ Pt.pY Pt.base.1 = Pt.gy ∧ Pt.pFar Pt.base.1 = false:=by decide +kernel
/-! ### numbers modulo n -/
theorem nn_1 : 1 < Pt.nn:=Pt.nn_one
theorem nn_pos : 0 < Pt.nn:=Nat.lt_trans Nat.zero_lt_one nn_1
theorem mod_nn {M X : Nat} (h : M = X % Pt.nn) : M < Pt.nn:=by rw [h]; exact Nat.mod_lt _ nn_pos
theorem mod_top {M X : Nat} (h : M = X % Pt.nn) : M < top:=Nat.lt_trans (mod_nn h) nn_top
theorem mul_top {M X Y : Nat} (h : M = X * Y % Pt.nn) : M < top:=mod_top h
theorem inv_nn {t S : Nat} (h : t = Pt.iG Pt.nn S) : t < Pt.nn:=by rw [h]; exact Pt.iG_lt Pt.nn S
theorem inv_top {t S : Nat} (h : t = Pt.iG Pt.nn S) : t < top:=Nat.lt_trans (inv_nn h) nn_top
theorem may_lt {X : Nat} (h : mayB X = true) : X < Pt.nn:=((Pt.inR_iff X).1 h).2
theorem may_ne {X : Nat} (h : mayB X = true) : X ≠ 0:=((Pt.inR_iff X).1 h).1
theorem inR_may (X : Nat) : Pt.inR X = mayB X:=rfl
def pick (D E : Nat) : List Nat → Option (Nat × Nat)
 | [] => none
 | k :: l => if (mayB (Pt.rOf k) && mayB (Pt.sOf D E k)) = true then some (Pt.rOf k,Pt.sOf D E k) else pick D E l
end Go.Proofs.YtbfkecfcolcclaaGreatDoor
namespace Go.Proofs.YtbfkecfcolcclaaGreatDoor
def top8 : Nat:=w64 ^ 8
theorem zgs : top8 = top * top:=by unfold top8 top; rw [← Nat.pow_add]
theorem zgr : w64 = 18446744073709551616:=rfl
theorem div_succ' (B n i : Nat) : n / B ^ (i + 1) = n / B ^ i / B:=by rw [Nat.pow_succ,Nat.div_div_eq_div_mul]
theorem setw {B : Nat} (hB : 0 < B) (Z k n v : Nat) (hk : k < n) (hZ : Z < B ^ n) (hv : v < B) :
  ∃ Z',Z' < B ^ n ∧ (∀ m,dg B Z' m = if m = k then v else dg B Z m) ∧ Z' + B ^ k * dg B Z k = Z + B ^ k * v:=by
 have hP : 0 < B ^ k:=Nat.pow_pos hB
 have e1 : B ^ k * (Z / B ^ k) + Z % B ^ k = Z:=Nat.div_add_mod _ _
 have e2 : B * (Z / B ^ k / B) + Z / B ^ k % B = Z / B ^ k:=Nat.div_add_mod _ _
 have hr:=Nat.mod_lt Z hP
 have hq : Z / B ^ k / B < B ^ (n - (k + 1)):=by
  rw [← div_succ',Nat.div_lt_iff_lt_mul (Nat.pow_pos hB),← Nat.pow_add,show n - (k + 1) + (k + 1) = n by omega]; exact hZ
 have hn : B ^ n = B ^ k * (B * B ^ (n - (k + 1))):=by
  rw [← Nat.mul_assoc,← Nat.pow_succ,← Nat.pow_add]; congr 1; omega
 have hd : dg B Z k = Z / B ^ k % B:=rfl
 have hdm : ∀ j,dg B Z (k + 1 + j) = Z / B ^ k / B / B ^ j % B:=by
  intro j; unfold dg; rw [Nat.pow_add,← Nat.div_div_eq_div_mul,div_succ']
 have hlo : ∀ j,j < k → dg B Z j = dg B (Z % B ^ k) j:=fun j hj => (zcs Z k j hj).symm
 rw [hd,hn]
 clear hd hn hZ
 generalize Z / B ^ k / B = q at *
 generalize Z / B ^ k % B = d at *
 generalize Z / B ^ k = a at *
 generalize Z % B ^ k = r at *
 have hz : r + B ^ k * (v + B * q) = r + B ^ k * v + B ^ k * (B * q):=by rw [Nat.mul_add,Nat.add_assoc]
 refine ⟨r + B ^ k * (v + B * q),?_,?_,?_⟩
 ·
  have : v + B * q + 1 ≤ B * B ^ (n - (k + 1)):=by
   have : B * (q + 1) ≤ B * B ^ (n - (k + 1)):=Nat.mul_le_mul_left _ hq
   rw [Nat.mul_add] at this; omega
  have:=Nat.mul_le_mul_left (B ^ k) this
  rw [Nat.mul_add] at this; omega
 ·
  have hdiv : (r + B ^ k * (v + B * q)) / B ^ k = v + B * q:=by
   rw [Nat.add_mul_div_left _ _ hP,Nat.div_eq_of_lt hr,Nat.zero_add]
  intro m
  by_cases h : m = k
  ·
   rw [if_pos h,h]
   unfold dg
   rw [hdiv,Nat.add_mul_mod_self_left,Nat.mod_eq_of_lt hv]
  ·
   rw [if_neg h]
   by_cases hlt : m < k
   ·
    rw [← zcs _ k m hlt,Nat.add_mul_mod_self_left,Nat.mod_eq_of_lt hr,hlo m hlt]
   ·
    obtain ⟨j,rfl⟩ : ∃ j,m = k + 1 + j:=⟨m - (k + 1),by omega⟩
    rw [hdm]
    unfold dg
    rw [Nat.pow_add,← Nat.div_div_eq_div_mul,div_succ',hdiv,Nat.add_mul_div_left _ _ hB,Nat.div_eq_of_lt hv,Nat.zero_add]
 ·
  rw [hz,← e1,← e2,Nat.mul_add]
  omega
theorem setwd (Z k : Nat) (v : Int) (hk : k < 8) (hZ : Z < top8) (h0 : 0 ≤ v) (h1 : v ≤ 18446744073709551615) :
  ∃ Z',Z' < top8 ∧ (∀ m,wd Z' m = if m = k then v else wd Z m) ∧ Z' + w64 ^ k * dg w64 Z k = Z + w64 ^ k * v.toNat:=by
 obtain ⟨Z',a,b,c⟩:=setw zak Z k 8 v.toNat hk hZ (by unfold w64; omega)
 refine ⟨Z',a,fun m => ?_,c⟩
 unfold wd
 rw [b m]
 split
 ·
  omega
 ·
  rfl
theorem col_step {B Z Z' Z0 t m c c' x i j M : Nat} (hM : m = dg B M j) (e : Z + c * B ^ (i + j) = Z0 + t * (M % B ^ j) * B ^ i)
  (hx : x + B * c' = t * m + c + dg B Z (i + j)) (hZ : Z' + B ^ (i + j) * dg B Z (i + j) = Z + B ^ (i + j) * x) :
  Z' + c' * B ^ (i + (j + 1)) = Z0 + t * (M % B ^ (j + 1)) * B ^ i:=by
 rw [zbb,← hM,← Nat.add_assoc i j 1,Nat.pow_succ B (i + j)]
 have h1 : t * (M % B ^ j + B ^ j * m) * B ^ i = t * (M % B ^ j) * B ^ i + B ^ (i + j) * (t * m):=by
  rw [Nat.mul_add,Nat.add_mul,Nat.pow_add]
  congr 1
  rw [Nat.mul_left_comm t,Nat.mul_comm (B ^ i),Nat.mul_comm (B ^ j * B ^ i),Nat.mul_comm (B ^ j),Nat.mul_assoc]
 have h2:=congrArg (fun z => B ^ (i + j) * z) hx
 simp only [Nat.mul_add] at h2
 rw [h1]
 have h3 : c' * (B ^ (i + j) * B) = B ^ (i + j) * (B * c'):=by rw [Nat.mul_comm c',Nat.mul_assoc]
 rw [h3]
 rw [Nat.mul_comm c] at e
 generalize B ^ (i + j) * (B * c') = p1 at *
 generalize B ^ (i + j) * (t * m) = p2 at *
 generalize B ^ (i + j) * c = p3 at *
 generalize B ^ (i + j) * dg B Z (i + j) = p4 at *
 generalize B ^ (i + j) * x = p5 at *
 omega
theorem low_dvd {B Z : Nat} {k : Nat} (h : Z % B ^ k = 0) : Z = B ^ k * (Z / B ^ k):=by
 have:=Nat.div_add_mod Z (B ^ k); omega
theorem row_done {B X M Z Z1 Z2 T t c o o' x k : Nat} (hlow : Z % B ^ k = 0) (hT : T < B ^ k) (ht : t < B) (hM : M < B ^ 4) (e : Z + o * B ^ (k + 4) = X + T * M)
  (ht0 : (dg B Z k + t * dg B M 0) % B = 0) (h1 : Z1 + c * B ^ (k + 4) = Z + t * (M % B ^ 4) * B ^ k) (hx : x + B * o' = dg B Z1 (k + 4) + c + o)
  (h2 : Z2 + B ^ (k + 4) * dg B Z1 (k + 4) = Z1 + B ^ (k + 4) * x) :
  Z2 % B ^ (k + 1) = 0 ∧ T + B ^ k * t < B ^ (k + 1) ∧ Z2 + o' * B ^ (k + 1 + 4) = X + (T + B ^ k * t) * M:=by
 have hz:=low_dvd hlow
 rw [Nat.mod_eq_of_lt hM] at h1
 have hp5 : B ^ (k + 1 + 4) = B ^ (k + 4) * B:=by rw [← Nat.pow_succ,show k + 1 + 4 = k + 4 + 1 by omega]
 have hq : B ^ (k + 4) = B ^ (k + 1) * B ^ 3:=by rw [← Nat.pow_add,show k + 1 + 3 = k + 4 by omega]
 have f : Z2 + o' * B ^ (k + 1 + 4) = Z + t * M * B ^ k + o * B ^ (k + 4):=by
  have h3:=congrArg (fun z => B ^ (k + 4) * z) hx
  simp only [Nat.mul_add] at h3
  rw [hp5,Nat.mul_comm o',Nat.mul_assoc (B ^ (k + 4)),Nat.mul_comm o]
  rw [Nat.mul_comm c] at h1
  generalize B ^ (k + 4) * dg B Z1 (k + 4) = p1 at *
  generalize B ^ (k + 4) * x = p2 at *
  generalize B ^ (k + 4) * c = p3 at *
  generalize B ^ (k + 4) * o = p4 at *
  generalize B ^ (k + 4) * (B * o') = p5 at *
  omega
 refine ⟨?_,?_,?_⟩
 ·
  have g : (Z2 + o' * B ^ (k + 1 + 4)) % B ^ (k + 1) = Z2 % B ^ (k + 1):=by
   rw [hp5,hq,Nat.mul_comm o',Nat.mul_assoc,Nat.mul_assoc,Nat.add_mul_mod_self_left]
  rw [← g,f,hq,Nat.mul_comm o,Nat.mul_assoc (B ^ (k + 1)),Nat.add_mul_mod_self_left]
  have hd : (Z / B ^ k + t * M) % B = 0:=by
   have : dg B Z k = Z / B ^ k % B:=rfl
   rw [this] at ht0
   have h0 : dg B M 0 = M % B:=by unfold dg; rw [Nat.pow_zero,Nat.div_one]
   rw [h0,Nat.mod_add_mod,Nat.add_mod,Nat.mul_mod,Nat.mod_mod,← Nat.mul_mod,← Nat.add_mod] at ht0
   exact ht0
  rw [hz,Nat.mul_comm (t * M),← Nat.mul_add,Nat.pow_succ,Nat.mul_mod_mul_left,hd,Nat.mul_zero]
 ·
  rw [Nat.pow_succ]
  have : B ^ k * (t + 1) ≤ B ^ k * B:=Nat.mul_le_mul_left _ ht
  rw [Nat.mul_add] at this; omega
 ·
  rw [f,Nat.add_mul,Nat.mul_right_comm t M,Nat.mul_comm (B ^ k) t]
  generalize t * B ^ k * M = p3 at *
  generalize o * B ^ (k + 4) = p1 at *
  generalize T * M = p2 at *
  omega
theorem times_zero {d n m : Int} (h : (18446744073709551616 : Int) ∣ m * n - 1) :
  (d + (-d % 18446744073709551616 * n) % 18446744073709551616 * m) % 18446744073709551616 = 0:=by
 have e1:=Int.emod_add_mul_ediv (-d) 18446744073709551616
 have e2:=Int.emod_add_mul_ediv (-d % 18446744073709551616 * n) 18446744073709551616
 generalize -d % 18446744073709551616 * n / 18446744073709551616 = q2 at *
 generalize -d % 18446744073709551616 * n % 18446744073709551616 = t at *
 generalize -d / 18446744073709551616 = q1 at *
 generalize -d % 18446744073709551616 = s at *
 obtain ⟨c,hc⟩:=h
 apply Int.emod_eq_zero_of_dvd
 refine ⟨-d * c - q1 * n * m - q2 * m,?_⟩
 have et : t = s * n - 18446744073709551616 * q2:=by omega
 have es : s = -d - 18446744073709551616 * q1:=by omega
 have hmn : m * n = 18446744073709551616 * c + 1:=by omega
 rw [et,es]
 have : (-d - 18446744073709551616 * q1) * n * m = (-d - 18446744073709551616 * q1) * (m * n):=by rw [Int.mul_assoc,Int.mul_comm n]
 simp only [Int.sub_mul,Int.mul_sub,Int.neg_mul,Int.mul_assoc] at *
 rw [Int.mul_comm n m,hmn]
 simp only [Int.mul_add,Int.mul_one]
 have e3 : d * (18446744073709551616 * c) = 18446744073709551616 * (d * c):=by rw [Int.mul_left_comm]
 rw [e3]
 have e4 : q1 * (18446744073709551616 * c) = 18446744073709551616 * (q1 * c):=by rw [Int.mul_left_comm]
 rw [e4]
 omega
/-! ### Newton's steps -/
theorem newton {D E m x : Int} (h : D ∣ m * x - 1) (hE : E ∣ D * D) (hW : E ∣ 18446744073709551616) :
  E ∣ m * (x * ((2 - m * x % 18446744073709551616) % 18446744073709551616) % 18446744073709551616) - 1:=by
 obtain ⟨a,ha⟩:=h
 have e1:=Int.emod_add_mul_ediv (m * x) 18446744073709551616
 have e2:=Int.emod_add_mul_ediv (2 - m * x % 18446744073709551616) 18446744073709551616
 have e3:=Int.emod_add_mul_ediv (x * ((2 - m * x % 18446744073709551616) % 18446744073709551616)) 18446744073709551616
 generalize x * ((2 - m * x % 18446744073709551616) % 18446744073709551616) / 18446744073709551616 = q3 at *
 generalize x * ((2 - m * x % 18446744073709551616) % 18446744073709551616) % 18446744073709551616 = t3 at *
 generalize (2 - m * x % 18446744073709551616) / 18446744073709551616 = q2 at *
 generalize (2 - m * x % 18446744073709551616) % 18446744073709551616 = t2 at *
 generalize m * x / 18446744073709551616 = q1 at *
 generalize m * x % 18446744073709551616 = t1 at *
 -- m x = 1 + D a; t2 = 2 - m x + W (q1 - q2); t3 = x t2 - W q3
 have h3 : t3 = x * t2 - 18446744073709551616 * q3:=by omega
 have h2 : t2 = 2 - m * x + 18446744073709551616 * (q1 - q2):=by omega
 have hk : m * t3 - 1 = -(D * D) * (a * a) + 18446744073709551616 * (m * x * (q1 - q2) - m * q3):=by
  rw [h3,h2]
  have hx : m * x = 1 + D * a:=by omega
  rw [Int.mul_sub,← Int.mul_assoc,Int.mul_add,hx,Int.mul_left_comm m,Int.mul_left_comm (1 + D * a) 18446744073709551616]
  have : (1 + D * a) * (2 - (1 + D * a)) = 1 - D * D * (a * a):=by
   rw [show (2 : Int) - (1 + D * a) = 1 - D * a by omega,Int.mul_sub,Int.mul_one,Int.add_mul,Int.one_mul]
   have : D * a * (D * a) = D * D * (a * a):=by rw [Int.mul_assoc,Int.mul_left_comm a,Int.mul_assoc]
   omega
  rw [this,Int.neg_mul,Int.mul_sub]
  omega
 rw [hk]
 exact Int.dvd_add (Int.dvd_trans (Int.dvd_neg.2 hE) (Int.dvd_mul_right _ _)) (Int.dvd_trans hW (Int.dvd_mul_right _ _))
def dv (k : Nat) : Int:=match k with | 0 => 8 | 1 => 64 | 2 => 4096 | 3 => 16777216 | 4 => 281474976710656 | _ => 18446744073709551616
theorem dv_start {m : Int} (h : m % 2 = 1) : dv 0 ∣ m * m - 1:=by
 show (8 : Int) ∣ m * m - 1
 obtain ⟨a,b,ha,hb⟩ : ∃ a b : Int,m = 8 * a + b ∧ (b = 1 ∨ b = 3 ∨ b = 5 ∨ b = 7):=⟨m / 8,m % 8,by omega,by omega⟩
 have : m * m = 8 * (a * (8 * a) + 2 * (a * b)) + b * b:=by
  rw [ha,Int.add_mul,Int.mul_add,Int.mul_add,Int.mul_assoc,Int.mul_assoc,Int.mul_comm b,Int.mul_assoc 8 a b]
  omega
 rw [this]
 rcases hb with rfl | rfl | rfl | rfl <;> omega
theorem dv_step {m x : Int} {k : Nat} (hk : k < 5) (h : dv k ∣ m * x - 1) :
  dv (k + 1) ∣ m * (x * ((2 - m * x % 18446744073709551616) % 18446744073709551616) % 18446744073709551616) - 1:=by
 refine newton h ?_ ?_
 ·
  match k,hk with
  | 0,_ => decide
  | 1,_ => decide
  | 2,_ => decide
  | 3,_ => decide
  | 4,_ => decide
 ·
  match k,hk with
  | 0,_ => decide
  | 1,_ => decide
  | 2,_ => decide
  | 3,_ => decide
  | 4,_ => decide
/-! ### modulo an odd number,2^256 can be taken away -/
theorem top_two : top = 2 ^ 256:=by decide
theorem cop_top {M : Nat} (h : M % 2 = 1) : Nat.Coprime top M:=by
 rw [top_two]
 apply Nat.Coprime.pow_left
 unfold Nat.Coprime
 rw [Nat.gcd_rec,h]; rfl
theorem cut_top {M A B : Nat} (hM : M % 2 = 1) (h : A * top % M = B * top % M) : A % M = B % M:=by
 have hc : Nat.Coprime M top:=(cop_top hM).symm
 have key : ∀ {a b : Nat},a ≤ b → a * top % M = b * top % M → a % M = b % M:=by
  intro a b hab h
  have h1 : M ∣ (b - a) * top:=by
   rw [Nat.sub_mul]
   exact Nat.dvd_of_mod_eq_zero (Nat.sub_mod_eq_zero_of_mod_eq h.symm)
  have h2 : M ∣ b - a:=Nat.Coprime.dvd_of_dvd_mul_right hc h1
  obtain ⟨c,hc2⟩:=h2
  rw [show b = a + M * c by omega,Nat.add_mul_mod_self_left]
 rcases Nat.le_total A B with hab | hab
 ·
  exact key hab h
 ·
  exact (key hab h.symm).symm
theorem shr_sum {X M Z T o : Nat} (hX : X < top8) (hT : T < top) (hM0 : 0 < M) (hlow : Z % top = 0) (e : Z + o * top8 = X + T * M) :
  (Z / top + o * top) * top = X + T * M ∧ Z / top + o * top < top + M ∧ (X < M * top → Z / top + o * top < 2 * M):=by
 have hp:=zcg
 have hz : top * (Z / top) + Z % top = Z:=Nat.div_add_mod _ _
 rw [zgs] at *
 have e2 : (Z / top + o * top) * top = X + T * M:=by
  rw [Nat.add_mul,Nat.mul_assoc,Nat.mul_comm (Z / top)]; omega
 have hTM : T * M < top * M:=Nat.mul_lt_mul_of_pos_right hT hM0
 refine ⟨e2,?_,fun h => ?_⟩
 ·
  apply Nat.lt_of_mul_lt_mul_right (a:=top)
  rw [e2,Nat.add_mul,Nat.mul_comm M]; omega
 ·
  apply Nat.lt_of_mul_lt_mul_right (a:=top)
  rw [e2,Nat.mul_assoc 2,Nat.mul_comm M] at *
  omega
end Go.Proofs.YtbfkecfcolcclaaGreatDoor
namespace Go.Proofs.YtbfkecfcolcclaaGreatDoor
open Go.RowKit
open Go.Value renaming int → vI
open Go.IntKind renaming u64 → vU
open Go.Act renaming put → aP
open List renaming setIfInBounds_toArray → lA, set_cons_zero → lZ, set_cons_succ → lS
def fdf (M : Nat) (N : Int) (Q : Nat) : Nat → Value:=fun j => if j < 4 then .int .u64 (wd M j) else if j = 4 then .int .u64 N else .int .u64 (wd Q (j - 5))
def Fb (w : World) (b M : Nat) (N : Int) (Q : Nat) : Prop:=w.rowIs b 188 9 (fdf M N Q)
structure Fok (M : Nat) (N : Int) (Q : Nat) : Prop where
 m2 : 2 < M
 odd : M % 2 = 1
 mt : M < top
 n0 : 0 ≤ N
 n1 : N ≤ 18446744073709551615
 inv : (18446744073709551616 : Int) ∣ wd M 0 * N - 1
 q : Q = top8 % M
theorem Fok.qm {M : Nat} {N : Int} {Q : Nat} (h : Fok M N Q) : Q < M:=by rw [h.q]; exact Nat.mod_lt _ (by have:=h.m2; omega)
section
variable {w w' : World} {b M Q B : Nat} {N : Int}
theorem Fb.lt (h : Fb w b M N Q) : b < w.heap.size:=World.rowIs.lt h
theorem Fb.below (h : Fb w b M N Q) (hb : Below B w w') (hlt : b < B) : Fb w' b M N Q:=zac h hb hlt
theorem Fb.call (h : Fb w b M N Q) (hb : Below w.heap.size w w') : Fb w' b M N Q:=zac h hb h.lt
theorem Fb.drew (h : Fb w b M N Q) : Fb w.drew b M N Q:=h
theorem Fb.alloc (h : Fb w b M N Q) (o : Obj) : Fb (w.alloc o) b M N Q:=World.rowIs.alloc h o
theorem Fb.far {b' i : Nat} (h : Fb w b M N Q) (hne : b ≠ b') (v : Value) : Fb (w.setCell ⟨b',i,none⟩ v) b M N Q:=zam h hne v
theorem Fb.mod (h : Fb w b M N Q) : w.cell? ⟨b,0,none⟩ = some (vI vU (wd M 0)) ∧ w.cell? ⟨b,1,none⟩ = some (vI vU (wd M 1)) ∧ w.cell? ⟨b,2,none⟩ = some (vI vU (wd M 2)) ∧ w.cell? ⟨b,3,none⟩ = some (vI vU (wd M 3)) :=
 ⟨World.rowIs.cell h (by omega),World.rowIs.cell h (by omega),World.rowIs.cell h (by omega),World.rowIs.cell h (by omega)⟩
theorem Fb.inv (h : Fb w b M N Q) : w.cell? ⟨b,4,none⟩ = some (vI vU N):=World.rowIs.cell h (by omega)
theorem Fb.sq (h : Fb w b M N Q) : w.cell? ⟨b,5,none⟩ = some (vI vU (wd Q 0)) ∧ w.cell? ⟨b,6,none⟩ = some (vI vU (wd Q 1)) ∧ w.cell? ⟨b,7,none⟩ = some (vI vU (wd Q 2)) ∧ w.cell? ⟨b,8,none⟩ = some (vI vU (wd Q 3)) :=
 ⟨World.rowIs.cell h (by omega),World.rowIs.cell h (by omega),World.rowIs.cell h (by omega),World.rowIs.cell h (by omega)⟩
end
theorem wide_num (X : Nat) (h : X < top) : wd X 4 = 0 ∧ wd X 5 = 0 ∧ wd X 6 = 0 ∧ wd X 7 = 0:=by
 have e : ∀ i,4 ≤ i → wd X i = 0:=by
  intro i hi
  unfold wd dg
  rw [Nat.div_eq_of_lt (Nat.lt_of_lt_of_le h (Nat.pow_le_pow_right zak hi))]; rfl
 exact ⟨e 4 (by omega),e 5 (by omega),e 6 (by omega),e 7 (by omega)⟩
theorem wide_calls (X : Nat) (hX : X < top) (w : World) :
  Calls Tryz.prog 206 #[.agg #[vI vU (wd X 0),vI vU (wd X 1),vI vU (wd X 2),vI vU (wd X 3)]] w fun e w' => e = .returned (.agg #[vI vU (wd X 0),vI vU (wd X 1),vI vU (wd X 2),vI vU (wd X 3),vI vU (wd X 4),vI vU (wd X 5),vI vU (wd X 6),vI vU (wd X 7)]) ∧ Below w.heap.size w w':=by
 obtain ⟨e4,e5,e6,e7⟩:=wide_num X hX
 rw [e4,e5,e6,e7]
 have hA0 : ((w.alloc (.cells #[vI vU (wd X 0),vI vU (wd X 1),vI vU (wd X 2),vI vU (wd X 3)] 58)).alloc (.cells #[vI vU 0,vI vU 0,vI vU 0,vI vU 0,vI vU 0,vI vU 0,vI vU 0,vI vU 0] 196)).rowIs w.heap.size 58 4 (fun j => .int .u64 (wd X j)):=(zaf (n:=4) (by simp) rfl (arr4 fun j => .int .u64 (wd X j))).alloc _
 have hR0 : ((w.alloc (.cells #[vI vU (wd X 0),vI vU (wd X 1),vI vU (wd X 2),vI vU (wd X 3)] 58)).alloc (.cells #[vI vU 0,vI vU 0,vI vU 0,vI vU 0,vI vU 0,vI vU 0,vI vU 0,vI vU 0] 196)).rowIs (w.heap.size + 1) 196 8 (fun _ => .int .u64 0):=zaf (n:=8) (by simp) rfl (arr8 fun _ => .int .u64 0)
 obtain ⟨c0,c1,c2,c3⟩:=zag hA0
 obtain ⟨f0,f1,f2,f3,f4,f5,f6,f7⟩:=row_f8 hR0
 obtain ⟨d0,d1,d2,d3,d4,d5,d6,d7⟩:=row_c8 hR0
 clear e4 e5 e6 e7
 go_enter Tryz.func206,Tryz.ntmps206
 go_wp2
 exact bodyPost_ret (results_cell_row rfl _ _ (w.heap.size + 1) 196 #[vI vU (wd X 0),vI vU (wd X 1),vI vU (wd X 2),vI vU (wd X 3),vI vU 0,vI vU 0,vI vU 0,vI vU 0] (0,0) _ rfl (blk8 (zaf (n:=8) (f:=fun j => if j < 4 then Value.int .u64 (wd X j) else .int .u64 0) (by simp) rfl (arr8 fun j => if j < 4 then Value.int .u64 (wd X j) else .int .u64 0))) Tryz.underlying196 rfl (by kernel_rfl)) rfl ⟨rfl,((Below.refl _ _).alloc (by simp) _).alloc (by simp) _⟩
theorem inverse_calls (m : Int) (h0 : 0 ≤ m) (h1 : m ≤ 18446744073709551615) (hodd : m % 2 = 1) (w : World) :
  Calls Tryz.prog 181 #[vI vU m] w fun e w' => ∃ n : Int,0 ≤ n ∧ n ≤ 18446744073709551615 ∧ (18446744073709551616 : Int) ∣ m * n - 1 ∧ e = .returned (.int .u64 n) ∧ w' = w:=by
 have hS:=veil (dv_start hodd)
 clear hodd
 go_enter Tryz.func181,Tryz.ntmps181
 go_wp2
 go_loopw [3,5] (fun x i wr => ∃ (k : Nat) (n : Int),k ≤ 5 ∧ i = .int .i64 (k : Int) ∧ x = .int .u64 n ∧ 0 ≤ n ∧ n ≤ 18446744073709551615 ∧ Hid (dv k ∣ m * n - 1) ∧ wr = w)
  (fun _ i _ => 5 - (intOf i).toNat)
 case atStart => exact ⟨0,m,by omega,rfl,rfl,h0,h1,hS,rfl⟩
 case round =>
  obtain ⟨k,n,hk,rfl,rfl,n0,n1,hD,rfl⟩:=hrel
  by_cases hlt : k < 5
  ·
   have hn:=veil (dv_step hlt hD.out)
   obtain ⟨y,hy⟩ : ∃ y,y = n * ((2 - m * n % 18446744073709551616) % 18446744073709551616) % 18446744073709551616:=⟨_,rfl⟩
   rw [← hy] at hn
   have y0 : 0 ≤ y:=by omega
   have y1 : y ≤ 18446744073709551615:=by omega
   have hY:=veil hy
   clear hy
   go_wp2
   go_roundw
   case rel => exact ⟨k + 1,y,by omega,by go_num,by simp only [IntKind.wrap_u64]; rw [hY.out],y0,y1,hn,trivial⟩
   case measure => simp [intOf]; omega
  ·
   obtain rfl : k = 5:=by omega
   go_wp2
   go_ret
   exact ⟨n,n0,n1,hD.out,rfl,rfl⟩
theorem Fb.range {w : World} {b M : Nat} {N : Int} {Q : Nat} (h : Fb w b M N Q) : w.rangeAt b 0 [.int .u64 (wd M 0),.int .u64 (wd M 1),.int .u64 (wd M 2),.int .u64 (wd M 3)]:=fun j v hv => by
 obtain ⟨c0,c1,c2,c3⟩:=h.mod
 match j,hv with
 | 0,rfl => exact c0
 | 1,rfl => exact c1
 | 2,rfl => exact c2
 | 3,rfl => exact c3
 | _ + 4,hv => simp at hv
theorem zda {W : World} {b M : Nat} {N : Int} {Q : Nat} (h : Fb W b M N Q) : (Instr.loadAt 58 (.pointer (some ⟨b,0,none⟩))).run Tryz.prog W = .ok (.agg #[vI vU (wd M 0),vI vU (wd M 1),vI vU (wd M 2),vI vU (wd M 3)]) W:=run_loadAt_mid W b 0 58 _ _ h.range Tryz.underlying58 rfl (by kernel_rfl)
theorem ret_u2 {a b c d : Int} (h : a = b) (h2 : c = d) : Ending.returned (.tuple #[vI vU a,vI vU c]) = .returned (.tuple #[vI vU b,vI vU d]):=by rw [h,h2]
theorem mul64 (x y : Int) (hx : 0 ≤ x) (hx2 : x ≤ 18446744073709551615) (hy : 0 ≤ y) (hy2 : y ≤ 18446744073709551615) (w : World) :
  Calls Tryz.prog 205 #[vI vU x,vI vU y] w fun e w' => e = .returned (.tuple #[vI vU (x * y / 18446744073709551616),vI vU (x * y % 18446744073709551616)]) ∧ w' = w:=by
 have key:=mul64_arith x y hx (by omega) hy (by omega)
 have m1:=and_low32 x hx (by omega)
 have m2:=and_low32 y hy (by omega)
 have K:=veil key
 have M1:=veil m1
 have M2:=veil m2
 clear key m1 m2
 go_enter Tryz.func205,Tryz.ntmps205
 go_wp2
 go_ret2
 refine ⟨ret_u2 ?_ ?_,rfl⟩
 ·
  simp only [M1.out,M2.out,IntKind.wrap_u64]
  rw [and_low32 _ (by omega) (by omega)]
  exact K.out
 ·
  exact IntKind.wrap_u64 _
theorem ma_bound {x y : Int} (hx : 0 ≤ x) (hx2 : x ≤ 18446744073709551615) (hy : 0 ≤ y) (hy2 : y ≤ 18446744073709551615) : 0 ≤ x * y ∧ x * y ≤ 340282366920938463426481119284349108225:=by
 refine ⟨Int.mul_nonneg hx hy,?_⟩
 have:=Int.mul_le_mul hx2 hy2 hy (by omega : (0 : Int) ≤ 18446744073709551615)
 omega
theorem mulAdd_calls (x y u v : Int) (hx : 0 ≤ x) (hx2 : x ≤ 18446744073709551615) (hy : 0 ≤ y) (hy2 : y ≤ 18446744073709551615) (hu : 0 ≤ u) (hu2 : u ≤ 18446744073709551615) (hv : 0 ≤ v) (hv2 : v ≤ 18446744073709551615) (w : World) :
  Calls Tryz.prog 191 #[vI vU x,vI vU y,vI vU u,vI vU v] w fun e w' => e = .returned (.tuple #[vI vU ((x * y + u + v) % 18446744073709551616),vI vU ((x * y + u + v) / 18446744073709551616)]) ∧ w' = w:=by
 obtain ⟨p0,p1⟩:=ma_bound hx hx2 hy hy2
 obtain ⟨P,hP⟩ : ∃ P,P = x * y:=⟨_,rfl⟩
 rw [← hP] at p0 p1 ⊢
 obtain ⟨L,hL⟩ : ∃ L,L = P % 18446744073709551616:=⟨_,rfl⟩
 obtain ⟨Hh,hH⟩ : ∃ Hh,Hh = P / 18446744073709551616:=⟨_,rfl⟩
 obtain ⟨L1,hL1⟩ : ∃ L1,L1 = (L + u + 0) % 18446744073709551616:=⟨_,rfl⟩
 obtain ⟨c1,hc1⟩ : ∃ c1,c1 = (L + u + 0) / 18446744073709551616:=⟨_,rfl⟩
 obtain ⟨L2,hL2⟩ : ∃ L2,L2 = (L1 + v + 0) % 18446744073709551616:=⟨_,rfl⟩
 obtain ⟨c2,hc2⟩ : ∃ c2,c2 = (L1 + v + 0) / 18446744073709551616:=⟨_,rfl⟩
 have h29a:=fun W => add64 L u 0 (by omega) hu (by omega) (by omega) W
 have h29b:=fun W => add64 L1 v 0 (by omega) hv (by omega) (by omega) W
 rw [← hL1,← hc1] at h29a
 rw [← hL2,← hc2] at h29b
 have b1 : 0 ≤ Hh:=by omega
 have b2 : 0 ≤ c1:=by omega
 have b3 : 0 ≤ c2:=by omega
 have b4 : Hh + c1 ≤ 18446744073709551615:=by omega
 have b5 : Hh + c1 + c2 ≤ 18446744073709551615:=by omega
 have e1 : (P + u + v) % 18446744073709551616 = L2:=by omega
 have e2 : (P + u + v) / 18446744073709551616 = Hh + c1 + c2:=by omega
 have hM:=fun W => mul64 x y hx hx2 hy hy2 W
 rw [← hP,← hL,← hH] at hM
 have HM:=veil hM
 have E:=veil (And.intro e1 e2)
 clear hM e1 e2 hP hL hH hL1 hc1 hL2 hc2 p0 p1 hx hx2 hy hy2 hu hu2 hv hv2
 go_enter Tryz.func191,Tryz.ntmps191
 go_wp2_with (go_at_call 205; refine (HM.out _).mono ?_; rintro e w' ⟨rfl,rfl⟩)
 go_ret2
 rw [E.out.1,E.out.2]
 exact ⟨rfl,rfl⟩
end Go.Proofs.YtbfkecfcolcclaaGreatDoor
namespace Go.Proofs.YtbfkecfcolcclaaGreatDoor
def PP (B X Y i : Nat) : Nat:=X % B ^ i * Y
def TT (B X Y i j : Nat) : Nat:=PP B X Y i % B ^ (i + j) + dg B X i * (B ^ i * (Y % B ^ j))
def CC (B X Y i j : Nat) : Nat:=TT B X Y i j / B ^ (i + j)
def UU (B X Y i j m : Nat) : Nat:=if m < i + j then dg B (TT B X Y i j) m else dg B (PP B X Y i) m
theorem UU_start {B : Nat} (X Y i m : Nat) : UU B X Y i 0 m = dg B (PP B X Y i) m:=by
 unfold UU
 split
 ·
  rename_i h
  unfold TT
  simp only [Nat.pow_zero,Nat.mod_one,Nat.mul_zero,Nat.add_zero] at *
  exact zcs _ i m h
 ·
  rfl
theorem CC_start {B : Nat} (hB : 0 < B) (X Y i : Nat) : CC B X Y i 0 = 0:=by
 unfold CC TT
 simp only [Nat.pow_zero,Nat.mod_one,Nat.mul_zero,Nat.add_zero]
 exact Nat.div_eq_of_lt (Nat.mod_lt _ (Nat.pow_pos hB))
theorem TT_lt {B : Nat} (hB : 0 < B) (X Y i j : Nat) : TT B X Y i j < B ^ (i + j) * B:=by
 have hQ : 0 < B ^ (i + j):=Nat.pow_pos hB
 have h1:=Nat.mod_lt (PP B X Y i) hQ
 have h2 : B ^ i * (Y % B ^ j) ≤ B ^ (i + j):=by
  rw [Nat.pow_add]
  exact Nat.mul_le_mul_left _ (Nat.le_of_lt (Nat.mod_lt _ (Nat.pow_pos hB)))
 have h3 : dg B X i * (B ^ i * (Y % B ^ j)) ≤ (B - 1) * B ^ (i + j):=Nat.mul_le_mul (by have:=dg_lt hB X i; omega) h2
 unfold TT
 have h4 : B ^ (i + j) * B = B ^ (i + j) + (B - 1) * B ^ (i + j):=by
  obtain ⟨b,rfl⟩ : ∃ b,B = b + 1:=⟨B - 1,by omega⟩
  rw [Nat.add_sub_cancel,Nat.mul_add,Nat.mul_one,Nat.mul_comm]
  omega
 omega
theorem CC_lt {B : Nat} (hB : 0 < B) (X Y i j : Nat) : CC B X Y i j < B:=by
 unfold CC
 rw [Nat.div_lt_iff_lt_mul (Nat.pow_pos hB),Nat.mul_comm]
 exact TT_lt hB X Y i j
theorem UU_lt {B : Nat} (hB : 0 < B) (X Y i j m : Nat) : UU B X Y i j m < B:=by
 unfold UU
 split <;> exact dg_lt hB _ _
theorem TT_step {B : Nat} (X Y i j : Nat) :
  TT B X Y i (j + 1) = TT B X Y i j % B ^ (i + j) + B ^ (i + j) * (dg B X i * dg B Y j + dg B (PP B X Y i) (i + j) + CC B X Y i j):=by
 have h1 : TT B X Y i (j + 1) = TT B X Y i j + B ^ (i + j) * (dg B (PP B X Y i) (i + j) + dg B X i * dg B Y j):=by
  unfold TT
  rw [show i + (j + 1) = (i + j) + 1 by omega,zbb B (PP B X Y i) (i + j),zbb B Y j,Nat.mul_add (B ^ i),← Nat.mul_assoc (B ^ i),← Nat.pow_add,Nat.mul_add (dg B X i),Nat.mul_add (B ^ (i + j)),
   show dg B X i * (B ^ (i + j) * dg B Y j) = B ^ (i + j) * (dg B X i * dg B Y j) by rw [Nat.mul_left_comm]]
  omega
 have h2 : B ^ (i + j) * CC B X Y i j + TT B X Y i j % B ^ (i + j) = TT B X Y i j:=Nat.div_add_mod _ _
 rw [h1,Nat.mul_add,Nat.mul_add,Nat.mul_add]
 omega
theorem UU_step {B : Nat} (hB : 0 < B) (X Y i j : Nat) : UU B X Y i (j + 1) (i + j) = (dg B X i * dg B Y j + UU B X Y i j (i + j) + CC B X Y i j) % B:=by
 have hu : UU B X Y i j (i + j) = dg B (PP B X Y i) (i + j):=by unfold UU; rw [if_neg (by omega)]
 rw [hu]
 unfold UU
 rw [if_pos (by omega),dg,TT_step,Nat.add_mul_div_left _ _ (Nat.pow_pos hB),Nat.div_eq_of_lt (Nat.mod_lt _ (Nat.pow_pos hB)),Nat.zero_add]
theorem CC_step {B : Nat} (hB : 0 < B) (X Y i j : Nat) : CC B X Y i (j + 1) = (dg B X i * dg B Y j + UU B X Y i j (i + j) + CC B X Y i j) / B:=by
 have hu : UU B X Y i j (i + j) = dg B (PP B X Y i) (i + j):=by unfold UU; rw [if_neg (by omega)]
 rw [hu]
 show TT B X Y i (j + 1) / B ^ (i + (j + 1)) = _
 rw [show i + (j + 1) = (i + j) + 1 by omega,Nat.pow_succ,← Nat.div_div_eq_div_mul,TT_step,Nat.add_mul_div_left _ _ (Nat.pow_pos hB),Nat.div_eq_of_lt (Nat.mod_lt _ (Nat.pow_pos hB)),Nat.zero_add]
theorem UU_other {B : Nat} (X Y i j m : Nat) (hm : m ≠ i + j) : UU B X Y i (j + 1) m = UU B X Y i j m:=by
 unfold UU
 by_cases h : m < i + j
 ·
  rw [if_pos (by omega),if_pos h,← zcs _ (i + j) m h,TT_step,Nat.add_mul_mod_self_left,Nat.mod_mod,zcs _ (i + j) m h]
 ·
  rw [if_neg (by omega),if_neg h]
theorem PP_lt {B : Nat} (hB : 0 < B) (X Y i n : Nat) (hY : Y < B ^ n) : PP B X Y i < B ^ (i + n):=by
 have h1 : X % B ^ i < B ^ i:=Nat.mod_lt _ (Nat.pow_pos hB)
 unfold PP
 rw [Nat.pow_add]
 exact Nat.mul_lt_mul_of_lt_of_le h1 (Nat.le_of_lt hY) (by omega)
theorem PP_step {B : Nat} (hB : 0 < B) (X Y i n : Nat) (hY : Y < B ^ n) : PP B X Y (i + 1) = TT B X Y i n:=by
 unfold TT
 rw [Nat.mod_eq_of_lt (PP_lt hB X Y i n hY),Nat.mod_eq_of_lt hY]
 unfold PP
 rw [zbb,Nat.add_mul,Nat.mul_comm (B ^ i) (dg B X i),Nat.mul_assoc]
theorem PP_row {B : Nat} (hB : 0 < B) (X Y i n m : Nat) (hY : Y < B ^ n) : dg B (PP B X Y (i + 1)) m = if m = i + n then CC B X Y i n else UU B X Y i n m:=by
 rw [PP_step hB X Y i n hY]
 by_cases h : m = i + n
 ·
  subst h
  rw [if_pos rfl]
  show CC B X Y i n % B = _
  exact Nat.mod_eq_of_lt (CC_lt hB X Y i n)
 ·
  rw [if_neg h]
  unfold UU
  by_cases h2 : m < i + n
  ·
   rw [if_pos h2]
  ·
   rw [if_neg h2]
   have hle : B ^ (i + n) * B ≤ B ^ m:=by rw [← Nat.pow_succ]; exact Nat.pow_le_pow_right hB (by omega)
   have h3:=TT_lt hB X Y i n
   have h4:=PP_lt hB X Y i n hY
   have h5 : B ^ (i + n) ≤ B ^ (i + n) * B:=Nat.le_mul_of_pos_right _ hB
   unfold dg
   rw [Nat.div_eq_of_lt (by omega),Nat.div_eq_of_lt (by omega)]
theorem PP_zero (B X Y : Nat) : PP B X Y 0 = 0:=by simp [PP,Nat.mod_one]
theorem PP_end {B : Nat} (X Y n : Nat) (hX : X < B ^ n) : PP B X Y n = X * Y:=by unfold PP; rw [Nat.mod_eq_of_lt hX]
theorem dg_zero (B i : Nat) : dg B 0 i = 0:=by simp [dg]
end Go.Proofs.YtbfkecfcolcclaaGreatDoor
namespace Go.Proofs.YtbfkecfcolcclaaGreatDoor
open Go.RowKit
open Go.Value renaming int → vI
open Go.IntKind renaming u64 → vU
open Go.Act renaming put → aP
open List renaming setIfInBounds_toArray → lA, set_cons_zero → lZ, set_cons_succ → lS
def be32 (y : Nat → Nat) (k : Nat) : Nat:=lev (fun i => y (k + (31 - i))) 32
/-! ### numbers -/
theorem lev_digs9 (X : Nat) (z : Nat → Nat) : ∀ i,(∀ k,k < i → z k = X / 256 ^ k % 256) → lev z i = X % 256 ^ i
 | 0,_ => by simp [lev,Nat.mod_one]
 | i + 1,h => by
  show lev z i + z i * 256 ^ i = _
  rw [zbb,lev_digs9 X z i (fun k hk => h k (by omega)),h i (by omega),Nat.mul_comm]
  rfl
theorem lev_valB {bs : List Nat} (h : Byt bs) {n : Nat} (hl : bs.length = n) {z : Nat → Nat} (hz : ∀ k,k < n → z k = bs.getD (n - 1 - k) 0) : lev z n = valB bs:=by
 have e:=beB_valB h hl
 have hx : valB bs < 256 ^ n:=hl ▸ zes h
 rw [lev_digs9 (valB bs) z n fun k hk => ?_,Nat.mod_eq_of_lt hx]
 have h1:=beB_get n (valB bs) (i:=n - 1 - k) (by omega)
 rw [e] at h1
 rw [hz k hk,h1,show n - 1 - (n - 1 - k) = k by omega]
section
variable {P : Program} {ops : Array Oper} {Q : Exit → Act → World → Prop} {md : Region.Mode}
theorem all_cons {p : Nat → Prop} {i : Nat} {rs : List Nat} (h : p i) (k : ∀ j ∈ rs,p j) : ∀ j ∈ i :: rs,p j:=fun j hj => by
 rcases List.mem_cons.1 hj with rfl | hj
 ·
  exact h
 ·
  exact k j hj
section
variable {i : Nat} {o : Oper} {d : Option Tmp} {K : Act → World → Prop} {a : Act} {W : World}
end
/-! ### a piece of the text's order,whatever has come up -/
end
def Lit (A : Nat → Nat → Act) (T : Nat → World → Prop) : Exit → Act → World → Prop:=fun e a W => ∃ g p,e = .normal ∧ a = A g p ∧ T p W
section
variable {P : Program} {Q : Exit → Act → World → Prop} {A : Nat → Nat → Act} {T : Nat → World → Prop}
section
variable {P : Program} {Q : Exit → Act → World → Prop}
end
end
section
variable {P : Program} {Q : Exit → Act → World → Prop} {l : List Oper} {m g : Nat} {A : Act} {w W0 : World} {ty t : TypeId} {zs cells : Array Value} {d de : Tmp} {y : Operand}
end
end Go.Proofs.YtbfkecfcolcclaaGreatDoor
namespace Go.Proofs.YtbfkecfcolcclaaGreatDoor
open Go.ChangeShapes Go.WideShapes Go.RowKit
open Go.Value renaming int → vI
open Go.IntKind renaming u64 → vU
open Go.Act renaming put → aP
open List renaming setIfInBounds_toArray → lA, set_cons_zero → lZ, set_cons_succ → lS
theorem underS12 : ∃ f0 f1 f2 f3 f4 : Field,Tryz.prog.underlying 49 = some (.struct #[f0,f1,f2,f3,f4]) ∧ (f0.offset = 0 ∧ f1.offset = 1 ∧ f2.offset = 2 ∧ f3.offset = 3 ∧ f4.offset = 4) ∧ f0.type = 3 ∧ f1.type = 3 ∧ f2.type = 3 ∧ f3.type = 47 ∧ f4.type = 47:=⟨_,_,_,_,_,Tryz.underlying49,⟨rfl,rfl,rfl,rfl,rfl⟩,rfl,rfl,rfl,rfl,rfl⟩
theorem cellsS12 : Tryz.prog.cellsOf 49 = 5:=by kernel_rfl
theorem cellsL12 : Tryz.prog.cellsOf 47 = 1:=by kernel_rfl
section
variable {H : Type} {enc : TypeId × Value → H} {W : World} {base : Nat}
theorem d_of_trod {sp : Nat → Bool} {hd : Bool} {fuel : Nat} {cs : List Value} {x : DataW H × List MemPlace} (hf : DataW.trod enc Tryz.prog W base sp hd fuel 3 cs = some x) : ∃ k : Int,cs = dC k:=by
 obtain ⟨z,e,_,_⟩:=DataW.trod_int Tryz.underlying3 hf
 exact ⟨z,e⟩
theorem ds_of {sp : Nat → Bool} {hd : Bool} {fuel : Nat} {v : Value} {d : DataW H} {p : List MemPlace} (hf : DataW.trod enc Tryz.prog W base sp hd fuel 47 [v] = some (d,p)) : ∃ l : List Int,Ds W v l :=
 ls_of (cs:=dC) Tryz.underlying47 cellsI1 (by decide) (fun _ _ _ h => d_of_trod h) hf
end
end Go.Proofs.YtbfkecfcolcclaaGreatDoor
namespace Go.Proofs.YtbfkecfcolcclaaGreatDoor
open Go.ChangeShapes Go.WideShapes Go.RowKit
open Go.Value renaming int → vI
open Go.IntKind renaming u64 → vU
open Go.Act renaming put → aP
open List renaming setIfInBounds_toArray → lA, set_cons_zero → lZ, set_cons_succ → lS
theorem clist5 {cs : List Value} (h : cs.length = 5) : ∃ c0 c1 c2 c3 c4,cs = [c0,c1,c2,c3,c4]:=by
 match cs,h with
 | [c0,c1,c2,c3,c4],_ => exact ⟨c0,c1,c2,c3,c4,rfl⟩
section
variable {H : Type} {enc : TypeId × Value → H} {W : World} {base : Nat} {sp : Nat → Bool} {hd : Bool} {fuel : Nat}
def GoodS (W : World) (x : Sw) : Prop:=Ds W x.2.1 x.1.ex ∧ Ds W x.2.2 x.1.ec
theorem sw_of_trod {cs : List Value} {x : DataW H × List MemPlace} (hf : DataW.trod enc Tryz.prog W base sp hd fuel 49 cs = some x) : ∃ s : Sw,GoodS W s ∧ cs = swC s:=by
 obtain ⟨f0,f1,f2,f3,f4,hu,⟨o0,o1,o2,o3,o4⟩,t0,t1,t2,t3,t4⟩:=underS12
 obtain ⟨d,p⟩:=x
 obtain ⟨xs,n,_,hx,hl,hlen,hf⟩:=DataW.trod_struct hu hf
 rw [cellsS12] at hl
 obtain ⟨c0,c1,c2,c3,c4,rfl⟩:=clist5 hl
 have at_ : ∀ (i : Nat) (f : Field),(#[f0,f1,f2,f3,f4] : Array Field)[i]? = some f → ∃ y,xs[i]? = some y:=by
  intro i f hi
  cases hy : xs[i]? with
  | none => exact absurd (List.getElem?_eq_none_iff.1 hy) (Nat.not_le.2 (by rw [hlen]; exact (Array.getElem?_eq_some_iff.1 hi).1))
  | some y => exact ⟨y,rfl⟩
 have each : ∀ (i : Nat) (f : Field) (c : Value),(#[f0,f1,f2,f3,f4] : Array Field)[i]? = some f → f.type = 3 → (([c0,c1,c2,c3,c4].drop f.offset).take 1) = [c] → ∃ z,c = .int .i64 z:=by
  intro i f c hi ht hc
  have h1:=hf i f hi
  rw [ht,cellsI1,hc] at h1
  obtain ⟨y,hy⟩:=at_ i f hi
  rw [hy] at h1
  obtain ⟨z,h2,_⟩:=DataW.trod_int Tryz.underlying3 (by simpa using h1)
  simp only [List.cons.injEq,and_true] at h2
  exact ⟨z,h2⟩
 have each2 : ∀ (i : Nat) (f : Field) (c : Value),(#[f0,f1,f2,f3,f4] : Array Field)[i]? = some f → f.type = 47 → (([c0,c1,c2,c3,c4].drop f.offset).take 1) = [c] → ∃ l,Ds W c l:=by
  intro i f c hi ht hc
  have h1:=hf i f hi
  rw [ht,cellsL12,hc] at h1
  obtain ⟨⟨y,q⟩,hy⟩:=at_ i f hi
  rw [hy] at h1
  exact ds_of (by simpa using h1)
 obtain ⟨z0,rfl⟩:=each 0 f0 c0 rfl t0 (by rw [o0]; rfl)
 obtain ⟨z1,rfl⟩:=each 1 f1 c1 rfl t1 (by rw [o1]; rfl)
 obtain ⟨z2,rfl⟩:=each 2 f2 c2 rfl t2 (by rw [o2]; rfl)
 obtain ⟨l3,h3⟩:=each2 3 f3 c3 rfl t3 (by rw [o3]; rfl)
 obtain ⟨l4,h4⟩:=each2 4 f4 c4 rfl t4 (by rw [o4]; rfl)
 exact ⟨(⟨z0,z1,z2,l3,l4⟩,c3,c4),⟨h3,h4⟩,rfl⟩
end
end Go.Proofs.YtbfkecfcolcclaaGreatDoor
namespace Go.Proofs.YtbfkecfcolcclaaGreatDoor
open Go.ChangeShapes Go.WideShapes Go.RowKit
open Go.Value renaming int → vI
open Go.IntKind renaming u64 → vU
open Go.Act renaming put → aP
open List renaming setIfInBounds_toArray → lA, set_cons_zero → lZ, set_cons_succ → lS
theorem underP14 : ∃ f0 f1 f2 : Field,Tryz.prog.underlying 51 = some (.struct #[f0,f1,f2]) ∧ (f0.offset = 0 ∧ f1.offset = 1 ∧ f2.offset = 2) ∧ f0.type = 3 ∧ f1.type = 3 ∧ f2.type = 49:=⟨_,_,_,Tryz.underlying51,⟨rfl,rfl,rfl⟩,rfl,rfl,rfl⟩
theorem cellsP14 : Tryz.prog.cellsOf 51 = 7:=by kernel_rfl
theorem list7 {cs : List Value} (h : cs.length = 7) : ∃ c0 c1 c2 c3 c4 c5 c6,cs = [c0,c1,c2,c3,c4,c5,c6]:=by
 match cs,h with
 | [c0,c1,c2,c3,c4,c5,c6],_ => exact ⟨c0,c1,c2,c3,c4,c5,c6,rfl⟩
section
variable {H : Type} {enc : TypeId × Value → H} {W : World} {base : Nat} {sp : Nat → Bool} {hd : Bool} {fuel : Nat}
def GoodP (W : World) (x : Pw) : Prop:=Ds W x.2.1 x.1.sv.ex ∧ Ds W x.2.2 x.1.sv.ec
theorem pw_of_trod {cs : List Value} {x : DataW H × List MemPlace} (hf : DataW.trod enc Tryz.prog W base sp hd fuel 51 cs = some x) : ∃ s : Pw,GoodP W s ∧ cs = pwC s:=by
 obtain ⟨f0,f1,f2,hu,⟨o0,o1,o2⟩,t0,t1,t2⟩:=underP14
 obtain ⟨d,p⟩:=x
 obtain ⟨xs,n,_,hx,hl,hlen,hf⟩:=DataW.trod_struct hu hf
 rw [cellsP14] at hl
 obtain ⟨c0,c1,c2,c3,c4,c5,c6,rfl⟩:=list7 hl
 have at_ : ∀ (i : Nat) (f : Field),(#[f0,f1,f2] : Array Field)[i]? = some f → ∃ y,xs[i]? = some y:=by
  intro i f hi
  cases hy : xs[i]? with
  | none => exact absurd (List.getElem?_eq_none_iff.1 hy) (Nat.not_le.2 (by rw [hlen]; exact (Array.getElem?_eq_some_iff.1 hi).1))
  | some y => exact ⟨y,rfl⟩
 have each : ∀ (i : Nat) (f : Field) (c : Value),(#[f0,f1,f2] : Array Field)[i]? = some f → f.type = 3 → (([c0,c1,c2,c3,c4,c5,c6].drop f.offset).take 1) = [c] → ∃ z,c = .int .i64 z:=by
  intro i f c hi ht hc
  have h1:=hf i f hi
  rw [ht,cellsI1,hc] at h1
  obtain ⟨y,hy⟩:=at_ i f hi
  rw [hy] at h1
  obtain ⟨z,h2,_⟩:=DataW.trod_int Tryz.underlying3 (by simpa using h1)
  simp only [List.cons.injEq,and_true] at h2
  exact ⟨z,h2⟩
 obtain ⟨z0,rfl⟩:=each 0 f0 c0 rfl t0 (by rw [o0]; rfl)
 obtain ⟨z1,rfl⟩:=each 1 f1 c1 rfl t1 (by rw [o1]; rfl)
 have h2:=hf 2 f2 rfl
 rw [t2,cellsS12,o2] at h2
 obtain ⟨y,hy⟩:=at_ 2 f2 rfl
 rw [hy] at h2
 obtain ⟨⟨s,vE,vX⟩,hs,e⟩:=sw_of_trod (by simpa using h2)
 unfold swC at e
 simp only [List.cons.injEq,and_true] at e
 obtain ⟨rfl,rfl,rfl,rfl,rfl⟩:=e
 exact ⟨(⟨z0,z1,s⟩,_,_),hs,rfl⟩
theorem len_top {t e : TypeId} {A : Option Addr} {n c : Nat} {x : DataW H × List MemPlace} (ht : Tryz.prog.underlying t = some (.slice e)) (hf : DataW.trod enc Tryz.prog W base sp hd fuel t [.slice A n c] = some x) : (n : Int) ≤ 9223372036854775807:=by
 rcases DataW.trod_slice ht hf with ⟨h,_⟩ | ⟨a,len,cap,_,_,_,_,h,_,_,h1,h2,_⟩
 ·
  simp only [List.cons.injEq,Value.slice.injEq,and_true] at h
  omega
 ·
  simp only [List.cons.injEq,Value.slice.injEq,and_true] at h
  unfold maxLen at h2
  omega
theorem ps_of {v : Value} {d : DataW H} {p : List MemPlace} (hf : DataW.trod enc Tryz.prog W base sp hd fuel 22 [v] = some (d,p)) : ∃ l : List Pw,Ps14 W v l ∧ (l.length : Int) ≤ 9223372036854775807:=by
 obtain ⟨l,A,c,e,hc,hx⟩:=ls_of (α:={x : Pw // GoodP W x}) (cs:=fun x => pwC x.1) Tryz.underlying22 cellsP14 (by decide) (fun n cs' y h => by
  obtain ⟨s,hs,e⟩:=pw_of_trod h
  exact ⟨⟨s,hs⟩,e⟩) hf
 have hn : (l.length : Int) ≤ 9223372036854775807:=by
  rw [e] at hf
  exact len_top Tryz.underlying22 hf
 refine ⟨l.map (·.1),⟨⟨A,c,by rw [List.length_map]; exact e,by rw [List.length_map]; exact hc,?_⟩,fun x hx => ?_⟩,by rw [List.length_map]; exact hn⟩
 ·
  rw [List.length_map]
  refine hx.imp id ?_
  rintro ⟨b,o,ha,hb,hr⟩
  refine ⟨b,o,ha,hb,fun i x hi => ?_⟩
  rw [List.getElem?_map] at hi
  cases h : l[i]? with
  | none => rw [h] at hi; cases hi
  | some y =>
   rw [h] at hi
   rw [← Option.some.inj hi]
   exact hr i y h
 ·
  obtain ⟨y,_,rfl⟩:=List.mem_map.1 hx
  exact y.2
end
end Go.Proofs.YtbfkecfcolcclaaGreatDoor
namespace Go.Proofs.YtbfkecfcolcclaaGreatDoor
open Go.ChangeShapes Go.WideShapes Go.RowKit
open Go.Value renaming int → vI
open Go.IntKind renaming u64 → vU
open Go.Act renaming put → aP
open List renaming setIfInBounds_toArray → lA, set_cons_zero → lZ, set_cons_succ → lS
section
variable {H : Type} {enc : TypeId × Value → H} {P : Program} {W : World} {base : Nat} {sp : Nat → Bool} {hd : Bool}
theorem trodAll_mkv5 {t0 t1 t2 t3 t4 : TypeId} {v0 v1 v2 v3 v4 : Value} {d0 d1 d2 d3 d4 : DataW H} {p0 p1 p2 p3 p4 : List MemPlace} (h0 : DataW.Trod enc P W base sp hd t0 v0 d0 p0) (h1 : DataW.Trod enc P W base sp hd t1 v1 d1 p1) (h2 : DataW.Trod enc P W base sp hd t2 v2 d2 p2) (h3 : DataW.Trod enc P W base sp hd t3 v3 d3 p3) (h4 : DataW.Trod enc P W base sp hd t4 v4 d4 p4) :
  DataW.TrodAll enc P W base sp hd [t0,t1,t2,t3,t4] [v0,v1,v2,v3,v4] [d0,d1,d2,d3,d4] (p0 ++ (p1 ++ (p2 ++ (p3 ++ p4)))):=⟨p0,p1 ++ (p2 ++ (p3 ++ p4)),h0,trodAll_mk4 h1 h2 h3 h4,rfl⟩
theorem trodAll_mkv6 {t0 t1 t2 t3 t4 t5 : TypeId} {v0 v1 v2 v3 v4 v5 : Value} {d0 d1 d2 d3 d4 d5 : DataW H} {p0 p1 p2 p3 p4 p5 : List MemPlace} (h0 : DataW.Trod enc P W base sp hd t0 v0 d0 p0) (h1 : DataW.Trod enc P W base sp hd t1 v1 d1 p1) (h2 : DataW.Trod enc P W base sp hd t2 v2 d2 p2) (h3 : DataW.Trod enc P W base sp hd t3 v3 d3 p3) (h4 : DataW.Trod enc P W base sp hd t4 v4 d4 p4) (h5 : DataW.Trod enc P W base sp hd t5 v5 d5 p5) :
  DataW.TrodAll enc P W base sp hd [t0,t1,t2,t3,t4,t5] [v0,v1,v2,v3,v4,v5] [d0,d1,d2,d3,d4,d5] (p0 ++ (p1 ++ (p2 ++ (p3 ++ (p4 ++ p5))))):=⟨p0,p1 ++ (p2 ++ (p3 ++ (p4 ++ p5))),h0,trodAll_mkv5 h1 h2 h3 h4 h5,rfl⟩
theorem trodAll_v7 {t0 t1 t2 t3 t4 t5 t6 : TypeId} {args : Array Value} {ds : List (DataW H)} {ps : List MemPlace} (h : DataW.TrodAll enc P W base sp hd [t0,t1,t2,t3,t4,t5,t6] args.toList ds ps) :
  ∃ v0 v1 v2 v3 v4 v5 v6 d0 d1 d2 d3 d4 d5 d6 p0 p1 p2 p3 p4 p5 p6,args = #[v0,v1,v2,v3,v4,v5,v6] ∧ ds = [d0,d1,d2,d3,d4,d5,d6] ∧ ps = p0 ++ p1 ++ p2 ++ p3 ++ p4 ++ p5 ++ p6 ∧ DataW.Trod enc P W base sp hd t0 v0 d0 p0 ∧ DataW.Trod enc P W base sp hd t1 v1 d1 p1 ∧ DataW.Trod enc P W base sp hd t2 v2 d2 p2 ∧ DataW.Trod enc P W base sp hd t3 v3 d3 p3 ∧ DataW.Trod enc P W base sp hd t4 v4 d4 p4 ∧ DataW.Trod enc P W base sp hd t5 v5 d5 p5 ∧ DataW.Trod enc P W base sp hd t6 v6 d6 p6:=by
 obtain ⟨v0,r0,d0,e0,p0,q0,ha,rfl,rfl,h0,k0⟩:=trodAll_cons h
 obtain ⟨v1,r1,d1,e1,p1,q1,rfl,rfl,rfl,h1,k1⟩:=trodAll_cons k0
 obtain ⟨v2,r2,d2,e2,p2,q2,rfl,rfl,rfl,h2,k2⟩:=trodAll_cons k1
 obtain ⟨v3,r3,d3,e3,p3,q3,rfl,rfl,rfl,h3,k3⟩:=trodAll_cons k2
 obtain ⟨v4,r4,d4,e4,p4,q4,rfl,rfl,rfl,h4,k4⟩:=trodAll_cons k3
 obtain ⟨v5,r5,d5,e5,p5,q5,rfl,rfl,rfl,h5,k5⟩:=trodAll_cons k4
 obtain ⟨v6,r6,d6,e6,p6,q6,rfl,rfl,rfl,h6,k6⟩:=trodAll_cons k5
 obtain ⟨rfl,rfl,rfl⟩:=trodAll_nil k6
 exact ⟨v0,v1,v2,v3,v4,v5,v6,d0,d1,d2,d3,d4,d5,d6,p0,p1,p2,p3,p4,p5,p6,by cases args; simp_all,rfl,by simp,h0,h1,h2,h3,h4,h5,h6⟩
theorem trodAll_mkv7 {t0 t1 t2 t3 t4 t5 t6 : TypeId} {v0 v1 v2 v3 v4 v5 v6 : Value} {d0 d1 d2 d3 d4 d5 d6 : DataW H} {p0 p1 p2 p3 p4 p5 p6 : List MemPlace} (h0 : DataW.Trod enc P W base sp hd t0 v0 d0 p0) (h1 : DataW.Trod enc P W base sp hd t1 v1 d1 p1) (h2 : DataW.Trod enc P W base sp hd t2 v2 d2 p2) (h3 : DataW.Trod enc P W base sp hd t3 v3 d3 p3) (h4 : DataW.Trod enc P W base sp hd t4 v4 d4 p4) (h5 : DataW.Trod enc P W base sp hd t5 v5 d5 p5) (h6 : DataW.Trod enc P W base sp hd t6 v6 d6 p6) :
  DataW.TrodAll enc P W base sp hd [t0,t1,t2,t3,t4,t5,t6] [v0,v1,v2,v3,v4,v5,v6] [d0,d1,d2,d3,d4,d5,d6] (p0 ++ (p1 ++ (p2 ++ (p3 ++ (p4 ++ (p5 ++ p6)))))):=⟨p0,p1 ++ (p2 ++ (p3 ++ (p4 ++ (p5 ++ p6)))),h0,trodAll_mkv6 h1 h2 h3 h4 h5 h6,rfl⟩
end
end Go.Proofs.YtbfkecfcolcclaaGreatDoor
namespace Go.Proofs.YtbfkecfcolcclaaGreatDoor
open Go.RowKit
open Go.Value renaming int → vI
open Go.IntKind renaming u64 → vU
open Go.Act renaming put → aP
open List renaming setIfInBounds_toArray → lA, set_cons_zero → lZ, set_cons_succ → lS
def riseD (l : List Int) : Prop:=∀ i j,i < j → j < l.length → l.getD i 0 < l.getD j 0
theorem rise_of {l : List Int} (h : daysB l = true) : riseD l:=by
 intro i j
 induction j with
 | zero => intro h1; omega
 | succ j ih =>
  intro h1 h2
  have h3:=(daysB_ok h h2).2.2 (by omega)
  rw [Nat.add_sub_cancel] at h3
  by_cases c : i = j
  ·
   rw [c]; exact h3
  ·
   have:=ih (by omega) (by omega)
   omega
def AtD (l : List Int) (x : Int) (i : Nat) : Prop:=i ≤ l.length ∧ (∀ j,j < i → l.getD j 0 < x) ∧ (∀ j,i ≤ j → j < l.length → x ≤ l.getD j 0)
theorem at_end {l : List Int} {x : Int} {i : Nat} (h : AtD l x i) (hi : i = l.length) : decide (x ∈ l) = false:=d_not fun j hj e => by
 have:=h.2.1 j (by omega)
 omega
theorem at_yes {l : List Int} {x : Int} {i : Nat} (_ : AtD l x i) (hi : i < l.length) (e : l.getD i 0 = x) : decide (x ∈ l) = true:=d_is hi e
theorem at_no {l : List Int} {x : Int} {i : Nat} (hr : riseD l) (h : AtD l x i) (hi : i < l.length) (e : ¬ l.getD i 0 = x) : decide (x ∈ l) = false:=d_not fun j hj k => by
 by_cases c : j < i
 ·
  have:=h.2.1 j c
  omega
 ·
  have h1:=h.2.2 i (by omega) hi
  by_cases c2 : j = i
  ·
   subst c2; exact e k
  ·
   have:=hr i j (by omega) hj
   omega
theorem below_of {l : List Int} {x : Int} {h : Nat} (hr : riseD l) (hh : h < l.length) (k : l.getD h 0 < x) : ∀ j,j < h + 1 → l.getD j 0 < x:=fun j hj => by
 by_cases c : j = h
 ·
  subst c; exact k
 ·
  have:=hr j h (by omega) hh
  omega
theorem above_of {l : List Int} {x : Int} {h : Nat} (hr : riseD l) (k : ¬ l.getD h 0 < x) : ∀ j,h ≤ j → j < l.length → x ≤ l.getD j 0:=fun j hj hl => by
 by_cases c : j = h
 ·
  subst c; omega
 ·
  have:=hr h j (by omega) hl
  omega
theorem isNaN12_calls (a : Int) (w : World) : Calls Tryz.prog 115 #[.int .i64 a] w fun e w' => e = .returned (.bool false) ∧ w' = w:=by
 have f1 : (a == a) = true:=by simp
 go_enter Tryz.func115,Tryz.ntmps115
 go_wp2
 go_ret
 exact ⟨rfl,rfl⟩
theorem isNaNs_calls (a : Int) (w : World) : Calls Tryz.prog 200 #[.int .i64 a] w fun e w' => e = .returned (.bool false) ∧ w' = w:=by
 have f1 : (a == a) = true:=by simp
 go_enter Tryz.func200,Tryz.ntmps200
 go_wp2
 go_ret
 exact ⟨rfl,rfl⟩
theorem cmpLess_calls (a b : Int) (w : World) : Calls Tryz.prog 199 #[.int .i64 a,.int .i64 b] w fun e w' => e = .returned (.bool (decide (a < b))) ∧ w' = w:=by
 have K:=veil (fun x W => isNaN12_calls x W)
 obtain ⟨R,hR⟩ : ∃ R,R = decide (a < b):=⟨_,rfl⟩
 have hd:=hR.symm
 rw [← hR]
 clear hR
 go_enter Tryz.func199,Tryz.ntmps199
 go_wp2_with (go_at_call 115; refine (K.out _ _).mono ?_; rintro e w' ⟨rfl,rfl⟩)
 go_ret
 exact ⟨rfl,rfl⟩
theorem search_calls (v : Value) (l : List Int) (x : Int) (w : World) (hF : Ds w v l) (hL : l.length ≤ 1000000000) (hr : riseD l) :
  Calls Tryz.prog 166 #[v,.int .i64 x] w fun e w' => ∃ i : Nat,e = .returned (.tuple #[.int .i64 (i : Int),.bool (decide (x ∈ l))]) ∧ w' = w ∧ AtD l x i:=by
 obtain ⟨AL,c,rfl,hc,hx⟩:=hF
 obtain ⟨R,hR⟩ : ∃ R,R = decide (x ∈ l):=⟨_,rfl⟩
 rw [← hR]
 obtain ⟨n,hn⟩ : ∃ n,n = l.length:=⟨_,rfl⟩
 rw [← hn] at hx hc ⊢
 have HR:=veil (And.intro hR (And.intro hn (And.intro hL hr)))
 have HX:=veil hx
 have hnL : n ≤ 1000000000:=by omega
 have KN:=veil (fun y W => isNaNs_calls y W)
 have KL:=veil (fun y W => cmpLess_calls y x W)
 clear hR hx hn hL hr
 go_enter Tryz.func166,Tryz.ntmps166
 go_wp2
 go_loopw [7,8,9] (fun u v _ wr => ∃ i j : Nat,i ≤ j ∧ j ≤ n ∧ u = .int .i64 (i : Int) ∧ v = .int .i64 (j : Int) ∧ (∀ k,k < i → l.getD k 0 < x) ∧ (∀ k,j ≤ k → k < l.length → x ≤ l.getD k 0) ∧ wr = w)
  (fun u v _ _ => (intOf v).toNat - (intOf u).toNat)
 case atStart => exact ⟨0,n,by omega,by omega,rfl,rfl,fun j hj => by omega,fun k h1 h2 => by have:=HR.out.2.1; omega,rfl⟩
 case round =>
  obtain ⟨i,j,hij,hjn,rfl,rfl,hlo,hhi,rfl⟩:=hrel
  by_cases hlt : i < j
  ·
   have hd1 : decide ((i : Int) < (j : Int)) = true:=by simp; omega
   obtain ⟨b,o,hAL,hb,hcl⟩:=HX.out.resolve_left (by omega)
   obtain ⟨m,hm⟩ : ∃ m,m = (i + j) / 2:=⟨_,rfl⟩
   have hml : m < l.length:=by have:=HR.out.2.1; omega
   have hmn : (m : Int) < (n : Int):=by omega
   have c0:=d_cell (Ext.refl _) hb hcl hml
   have HK:=veil (And.intro hlo (And.intro hhi (And.intro hml (And.intro hm hij))))
   obtain ⟨k,hk⟩ : ∃ z,z = l.getD m 0:=⟨_,rfl⟩
   rw [← hk] at c0
   have HV:=veil hk
   have hij2 : (i : Int) + (j : Int) ≤ 2000000000:=by omega
   have hmm : ((i : Int) + (j : Int)) / 2 = (m : Int):=by omega
   have hm0 : (m : Int) ≤ 1000000000:=by omega
   subst hAL
   clear hk hlo hhi hcl hb hml hm hij
   by_cases g : k < x
   ·
    have KL1:=veil (show Calls Tryz.prog 199 #[.int .i64 k,.int .i64 x] wr fun e w' => e = .returned (.bool true) ∧ w' = wr from by have:=KL.out k wr; rwa [decide_eq_true g] at this)
    have G:=veil g
    clear g
    go_wp2_with (go_at_call 199; refine KL1.out.mono ?_; rintro e w' ⟨rfl,rfl⟩)
    go_roundw
    case rel => exact ⟨m + 1,j,by have:=HK.out; omega,by omega,by go_num,rfl,below_of HR.out.2.2.2 HK.out.2.2.1 (by rw [← HV.out]; exact G.out),HK.out.2.1,trivial⟩
    case measure => have:=HK.out; simp [intOf]; omega
   ·
    have KL1:=veil (show Calls Tryz.prog 199 #[.int .i64 k,.int .i64 x] wr fun e w' => e = .returned (.bool false) ∧ w' = wr from by have:=KL.out k wr; rwa [decide_eq_false g] at this)
    have G:=veil g
    clear g
    go_wp2_with (go_at_call 199; refine KL1.out.mono ?_; rintro e w' ⟨rfl,rfl⟩)
    go_roundw
    case rel => exact ⟨i,m,by have:=HK.out; omega,by have:=HK.out; omega,rfl,rfl,HK.out.1,above_of HR.out.2.2.2 (by rw [← HV.out]; have:=G.out; omega),trivial⟩
    case measure => have:=HK.out; simp [intOf]; omega
  ·
   obtain rfl : i = j:=by omega
   have hd1 : decide ((i : Int) < (i : Int)) = false:=by simp
   have HA:=veil (show AtD l x i from ⟨by have:=HR.out.2.1; omega,hlo,hhi⟩)
   clear hlo hhi
   by_cases hin : i < n
   ·
    have hd2 : decide ((i : Int) < (n : Int)) = true:=by simp; omega
    have hii : (i : Int) < (n : Int):=by omega
    obtain ⟨b,o,hAL,hb,hcl⟩:=HX.out.resolve_left (by omega)
    have hil : i < l.length:=by have:=HR.out.2.1; omega
    have c0:=d_cell (Ext.refl _) hb hcl hil
    obtain ⟨k,hk⟩ : ∃ z,z = l.getD i 0:=⟨_,rfl⟩
    rw [← hk] at c0
    have HV:=veil (And.intro hk hil)
    subst hAL
    clear hk hcl hb hil
    by_cases g : k = x
    ·
     have f1 : (k == x) = true:=by simp [g]
     obtain rfl : R = true:=HR.out.1.trans (at_yes HA.out HV.out.2 (HV.out.1.symm.trans g))
     clear g
     go_wp2_with (go_at_call 200; refine (KN.out _ _).mono ?_; rintro e w' ⟨rfl,rfl⟩)
     go_ret2
     exact ⟨i,rfl,rfl,HA.out⟩
    ·
     have f1 : (k == x) = false:=by simp [g]
     obtain rfl : R = false:=HR.out.1.trans (at_no HR.out.2.2.2 HA.out HV.out.2 fun h => g (HV.out.1.trans h))
     clear g
     go_wp2_with (go_at_call 200; refine (KN.out _ _).mono ?_; rintro e w' ⟨rfl,rfl⟩)
     go_ret2
     exact ⟨i,rfl,rfl,HA.out⟩
   ·
    obtain rfl : i = n:=by omega
    have hd2 : decide ((i : Int) < (i : Int)) = false:=by simp
    obtain rfl : R = false:=HR.out.1.trans (at_end HA.out HR.out.2.1)
    go_wp2
    go_ret2
    exact ⟨i,rfl,rfl,HA.out⟩
theorem zfb (v : Value) (l : List Int) (d : Int) (w : World) (hF : Ds w v l) (hL : l.length ≤ 1000000000) (hr : riseD l) :
  Calls Tryz.prog 118 #[v,.int .i64 d] w fun e w' => e = .returned (.bool (decide (d ∈ l))) ∧ w' = w:=by
 have K:=veil (search_calls v l d w hF hL hr)
 obtain ⟨R,hR⟩ : ∃ R,R = decide (d ∈ l):=⟨_,rfl⟩
 rw [← hR] at K ⊢
 clear hR hF hL hr
 go_enter Tryz.func118,Tryz.ntmps118
 go_wp2_with (go_at_call 166; refine K.out.mono ?_; rintro e w' ⟨i,rfl,rfl,_⟩)
 go_ret
 exact ⟨rfl,rfl⟩
def lastD (l : List Int) (i : Nat) : Int:=if i = 0 then -1 else l.getD (i - 1) 0
theorem okD_no {l : List Int} {i : Nat} (h : l.getD i 0 ≤ lastD l i) : ¬ okD l i:=fun k => by
 unfold lastD at h
 obtain ⟨k1,_,k3⟩:=k
 split at h
 ·
  omega
 ·
  have:=k3 (by omega)
  omega
theorem okD_yes {l : List Int} {i : Nat} (hall : ∀ j,j < i → okD l j) (h : ¬ l.getD i 0 ≤ lastD l i) (h2 : ¬ 1048576 < l.getD i 0) : okD l i:=by
 unfold lastD at h
 split at h
 ·
  exact ⟨by omega,by omega,fun _ => by omega⟩
 ·
  have:=(hall (i - 1) (by omega)).1
  exact ⟨by omega,by omega,fun _ => by omega⟩
theorem zfy (v : Value) (l : List Int) (w : World) (hF : Ds w v l) (hL : l.length ≤ 1000000000) :
  Calls Tryz.prog 74 #[v] w fun e w' => e = .returned (.bool (daysB l)) ∧ w' = w:=by
 obtain ⟨AL,c,rfl,hc,hx⟩:=hF
 obtain ⟨R,hR⟩ : ∃ R,R = daysB l:=⟨_,rfl⟩
 rw [← hR]
 obtain ⟨n,hn⟩ : ∃ n,n = l.length:=⟨_,rfl⟩
 rw [← hn] at hx hc ⊢
 have HR:=veil (And.intro hR (And.intro hn hL))
 have HX:=veil hx
 have hnL : n ≤ 1000000000:=by omega
 clear hR hx hn hL
 by_cases g0 : n ≤ 100
 rotate_left
 ·
  have hd0 : decide ((100 : Int) < (n : Int)) = true:=by simp; omega
  obtain rfl : R = false:=HR.out.1.trans (daysB_long (by rw [← HR.out.2.1]; exact g0))
  go_enter Tryz.func74,Tryz.ntmps74
  go_wp2
  go_ret
  exact ⟨rfl,rfl⟩
 have hd0 : decide ((100 : Int) < (n : Int)) = false:=by simp; omega
 have HG:=veil g0
 clear g0
 go_enter Tryz.func74,Tryz.ntmps74
 go_wp2
 go_loopw [3,5,11] (fun u _ v wr => ∃ i : Nat,i ≤ n ∧ v = .int .i64 (i : Int) ∧ u = .int .i64 (lastD l i) ∧ (∀ j,j < i → okD l j) ∧ wr = w)
  (fun _ _ v _ => n - (intOf v).toNat)
 case atStart => exact ⟨0,by omega,rfl,rfl,fun j hj => by omega,rfl⟩
 case round =>
  obtain ⟨i,hi,rfl,rfl,hall,rfl⟩:=hrel
  by_cases hlt : i < n
  ·
   have hd1 : decide ((i : Int) < (n : Int)) = true:=by simp; omega
   have hii : (i : Int) < (n : Int):=by omega
   obtain ⟨b,o,hAL,hb,hcl⟩:=HX.out.resolve_left (by omega)
   have hil : i < l.length:=by have:=HR.out.2.1; omega
   have c0:=d_cell (Ext.refl _) hb hcl hil
   have HK:=veil (And.intro hall hil)
   have HF:=veil (fun h : ¬ okD l i => HR.out.1.trans (daysB_false hil h))
   obtain ⟨k,hk⟩ : ∃ z,z = l.getD i 0:=⟨_,rfl⟩
   obtain ⟨y,hy⟩ : ∃ z,z = lastD l i:=⟨_,rfl⟩
   rw [← hk] at c0
   rw [← hy]
   have HV:=veil (And.intro hk hy)
   subst hAL
   clear hk hy hall hcl hb hil
   by_cases g1 : k ≤ y
   ·
    have hd2 : decide (k ≤ y) = true:=decide_eq_true g1
    obtain rfl : R = false:=HF.out (okD_no (by rw [← HV.out.1,← HV.out.2]; exact g1))
    go_wp2
    go_ret
    exact ⟨rfl,rfl⟩
   ·
    have hd2 : decide (k ≤ y) = false:=decide_eq_false g1
    by_cases g2 : 1048576 < k
    ·
     have hd3 : decide (1048576 < k) = true:=decide_eq_true g2
     obtain rfl : R = false:=HF.out fun h => by have:=h.2.1; rw [← HV.out.1] at this; omega
     go_wp2
     go_ret
     exact ⟨rfl,rfl⟩
    ·
     have hd3 : decide (1048576 < k) = false:=decide_eq_false g2
     have HO:=veil (okD_yes HK.out.1 (by rw [← HV.out.1,← HV.out.2]; exact g1) (by rw [← HV.out.1]; exact g2))
     clear g1 g2
     go_wp2
     go_roundw
     case rel =>
      refine ⟨i + 1,by omega,by go_num,by rw [HV.out.1]; rfl,fun j hj => ?_,trivial⟩
      by_cases e : j = i
      ·
       subst e; exact HO.out
      ·
       exact HK.out.1 j (by omega)
     case measure => simp [intOf]; omega
  ·
   obtain rfl : i = n:=by omega
   have hd1 : decide ((i : Int) < (i : Int)) = false:=by simp
   obtain rfl : R = true:=HR.out.1.trans (by rw [daysB_len (by rw [← HR.out.2.1]; exact hall),← HR.out.2.1]; exact decide_eq_true HG.out)
   clear hall
   go_wp2
   go_ret
   exact ⟨rfl,rfl⟩
theorem sharef_calls (g : Nat) (v : Value) (l : List Int) (d : Int) (w : World) (hF : Ds w v l) (hg : w.cell? ⟨g,0,none⟩ = some v) (hL : l.length ≤ 1000000000) (hr : riseD l) :
  Calls Tryz.prog 117 #[.int .i64 d,.pointer (some ⟨g,0,none⟩)] w fun e w' => e = .returned (.bool (decide (d ∈ l))) ∧ w' = w:=by
 have K:=veil (zfb v l d w hF hL hr)
 obtain ⟨R,hR⟩ : ∃ R,R = decide (d ∈ l):=⟨_,rfl⟩
 rw [← hR] at K ⊢
 obtain ⟨AL,c,rfl,hc,hx⟩:=hF
 obtain ⟨n,hn⟩ : ∃ n,n = l.length:=⟨_,rfl⟩
 rw [← hn] at hg K
 clear hR hL hr hx hc hn
 go_enter Tryz.func117,Tryz.ntmps117
 go_wp2_with (go_at_call 118; refine K.out.mono ?_; rintro e w' ⟨rfl,rfl⟩)
 go_ret
 exact ⟨rfl,rfl⟩
theorem farB_eq {a b : List Int} : farB a b = !a.any fun d => decide (d ∈ b):=by
 unfold farB
 rw [Bool.eq_iff_iff,Bool.not_eq_true',← Bool.not_eq_true,List.any_eq_true,decide_eq_true_eq]
 constructor
 ·
  rintro h ⟨x,hx,hy⟩
  obtain ⟨i,hi,rfl⟩:=d_idx hx
  exact h i hi (of_decide_eq_true hy)
 ·
  intro h i hi hm
  exact h ⟨_,d_mem hi,decide_eq_true hm⟩
theorem indexf12_calls (v u : Value) (l m : List Int) (g : Nat) (w : World) (hF : Ds w v l) (hL : l.length ≤ 1000000000) (hG : Ds w u m) (hg : w.cell? ⟨g,0,none⟩ = some u) (hM : m.length ≤ 1000000000) (hr : riseD m) :
  Calls Tryz.prog 165 #[v,.func (.func 117) #[] #[.pointer (some ⟨g,0,none⟩)]] w fun e w' => ∃ z : Int,e = .returned (.int .i64 z) ∧ decide (0 ≤ z) = l.any (fun d => decide (d ∈ m)) ∧ w' = w:=by
 have KO:=veil (fun d => sharef_calls g u m d w hG hg hM hr)
 obtain ⟨AL,c,rfl,hc,hx⟩:=hF
 obtain ⟨n,hn⟩ : ∃ n,n = l.length:=⟨_,rfl⟩
 rw [← hn] at hx hc hL ⊢
 obtain ⟨R,hR⟩ : ∃ R,R = l.any (fun d => decide (d ∈ m)):=⟨_,rfl⟩
 rw [← hR]
 have HR:=veil (And.intro hR hn)
 have HX:=veil hx
 clear hR hx hn hG hg hM hr
 go_enter Tryz.func165,Tryz.ntmps165
 go_wp2
 go_loopw [5,8] (fun _ v wr => ∃ i : Nat,i ≤ n ∧ v = .int .i64 (i : Int) ∧ (∀ j,j < i → l.getD j 0 ∉ m) ∧ wr = w)
  (fun _ v _ => n - (intOf v).toNat)
 case atStart => exact ⟨0,by omega,rfl,fun j hj => by omega,rfl⟩
 case round =>
  obtain ⟨i,hi,rfl,hall,rfl⟩:=hrel
  by_cases hlt : i < n
  ·
   have hd1 : decide ((i : Int) < (n : Int)) = true:=by simp; omega
   have hii : (i : Int) < (n : Int):=by omega
   obtain ⟨b,o,hAL,hb,hcl⟩:=HX.out.resolve_left (by omega)
   have hil : i < l.length:=by have:=HR.out.2; omega
   have c0:=d_cell (Ext.refl _) hb hcl hil
   have hmem : l.getD i 0 ∈ l:=d_mem hil
   obtain ⟨k,hk⟩ : ∃ k,k = l.getD i 0:=⟨_,rfl⟩
   rw [← hk] at c0 hmem
   have KO1:=veil (KO.out k)
   cases ho : decide (k ∈ m) with
   | true =>
    rw [ho] at KO1
    obtain rfl : R = true:=by
     rw [HR.out.1,List.any_eq_true]
     exact ⟨k,hmem,ho⟩
    clear hmem ho hk hil hcl hall
    subst hAL
    go_wp2_with (go_at_call 117; refine KO1.out.mono ?_; rintro e w1 ⟨rfl,rfl⟩)
    go_ret
    exact ⟨(i : Int),rfl,by simp,rfl⟩
   | false =>
    rw [ho] at KO1
    have hnext : ∀ j,j < i + 1 → l.getD j 0 ∉ m:=fun j hj => by
     by_cases e : j = i
     ·
      subst e
      rw [← hk]
      exact of_decide_eq_false ho
     ·
      exact hall j (by omega)
    have HN:=veil hnext
    clear hmem ho hk hil hcl hall hnext
    subst hAL
    go_wp2_with (go_at_call 117; refine KO1.out.mono ?_; rintro e w1 ⟨rfl,rfl⟩)
    go_roundw
    case rel => exact ⟨i + 1,by omega,by go_num,HN.out,trivial⟩
    case measure => simp [intOf]; omega
  ·
   obtain rfl : i = n:=by omega
   have hd1 : decide ((i : Int) < (i : Int)) = false:=by simp
   obtain rfl : R = false:=by
    rw [HR.out.1,List.any_eq_false]
    intro k hk
    obtain ⟨j,hj,rfl⟩:=d_idx hk
    have:=hall j (by have:=HR.out.2; omega)
    simpa using this
   clear hall
   go_wp2
   go_ret
   exact ⟨-1,rfl,by decide,rfl⟩
theorem zhc (v u : Value) (l m : List Int) (g : Nat) (w : World) (hF : Ds w v l) (hL : l.length ≤ 1000000000) (hG : Ds w u m) (hg : w.cell? ⟨g,0,none⟩ = some u) (hM : m.length ≤ 1000000000) (hr : riseD m) :
  Calls Tryz.prog 116 #[v,.func (.func 117) #[] #[.pointer (some ⟨g,0,none⟩)]] w fun e w' => e = .returned (.bool (l.any fun d => decide (d ∈ m))) ∧ w' = w:=by
 have KI:=veil (indexf12_calls v u l m g w hF hL hG hg hM hr)
 obtain ⟨R,hR⟩ : ∃ R,R = l.any fun d => decide (d ∈ m):=⟨_,rfl⟩
 rw [← hR] at KI ⊢
 clear hF hL hR hG hg hM hr
 go_enter Tryz.func116,Tryz.ntmps116
 go_wp2_with (go_at_call 165; refine KI.out.mono ?_; rintro e w1 ⟨z,rfl,hz,rfl⟩)
 go_ret
 exact ⟨by first | rfl | rw [hz],rfl⟩
theorem share_calls (v u : Value) (l m : List Int) (w : World) (hF : Ds w v l) (hL : l.length ≤ 1000000000) (hG : Ds w u m) (hM : m.length ≤ 1000000000) (hr : riseD m) :
  Calls Tryz.prog 75 #[v,u] w fun e w' => e = .returned (.bool (!farB l m)) ∧ Ext w w':=by
 have K:=veil (fun g W (hE : Ext w W) hg => zhc v u l m g W (hF.ext hE) hL (hG.ext hE) hg hM hr)
 rw [show (!farB l m) = l.any (fun d => decide (d ∈ m)) by rw [farB_eq,Bool.not_not]]
 obtain ⟨R,hR⟩ : ∃ R,R = l.any fun d => decide (d ∈ m):=⟨_,rfl⟩
 rw [← hR] at K ⊢
 obtain ⟨AL,c,rfl,hc,hx⟩:=hF
 obtain ⟨AM,cm,rfl,hcm,hxm⟩:=hG
 obtain ⟨n,hn⟩ : ∃ n,n = l.length:=⟨_,rfl⟩
 obtain ⟨n2,hn2⟩ : ∃ n,n = m.length:=⟨_,rfl⟩
 rw [← hn,← hn2] at K ⊢
 have h0:=zab w (.cells #[.slice AM n2 cm] 47)
 have hE0:=veil (Ext.alloc w (.cells #[.slice AM n2 cm] 47))
 have H0:=veil (show (w.alloc (.cells #[.slice AM n2 cm] 47)).cell? ⟨w.heap.size,0,none⟩ = some (.slice AM n2 cm) from cell_of_row _ _ 0 _ _ _ h0)
 clear hR hL hM hr hx hc hn hcm hxm hn2 h0
 go_enter Tryz.func75,Tryz.ntmps75
 go_wp2_with (go_at_call 116; refine (K.out _ _ hE0.out H0.out).mono ?_; rintro e w1 ⟨rfl,rfl⟩)
 go_ret
 exact ⟨rfl,hE0.out⟩
theorem mayV_b {s : Sv} (h : boundB s = false) : mayV s = false:=by unfold mayV; rw [h,Bool.and_false]
theorem mayV_e {s : Sv} (h : daysB s.ex = false) : mayV s = false:=by unfold mayV; rw [h]; rfl
theorem mayV_c {s : Sv} (h : daysB s.ec = false) : mayV s = false:=by unfold mayV; rw [h]; simp
theorem mayV_all {s : Sv} (h1 : boundB s = true) (h2 : daysB s.ex = true) (h3 : daysB s.ec = true) : mayV s = farB s.ex s.ec:=by unfold mayV; rw [h1,h2,h3]; simp
theorem may12_calls (v : Value) (s : Sv) (w : World) (hF : Vs12 w v s) (h1 : s.ex.length ≤ 1000000000) (h2 : s.ec.length ≤ 1000000000) :
  Calls Tryz.prog 45 #[v] w fun e w' => e = .returned (.bool (mayV s)) ∧ Ext w w':=by
 obtain ⟨vE,vX,rfl,hE,hX⟩:=hF
 obtain ⟨R,hR⟩ : ∃ R,R = mayV s:=⟨_,rfl⟩
 rw [← hR]
 have KA:=veil (fun W (h : Ext w W) => zfy vE s.ex W (hE.ext h) h1)
 have KB:=veil (fun W (h : Ext w W) => zfy vX s.ec W (hX.ext h) h2)
 have KS:=veil (fun W (h : Ext w W) (hb : daysB s.ec = true) => share_calls vE vX s.ex s.ec W (hE.ext h) h1 (hX.ext h) h2 (rise_of hb))
 obtain ⟨AE,cE,rfl,hcE,-⟩:=hE
 obtain ⟨AX,cX,rfl,hcX,-⟩:=hX
 have hE0:=Ext.alloc w (.cells (svC s (.slice AE s.ex.length cE) (.slice AX s.ec.length cX)) 49)
 have hS0:=SvAt.new w s (.slice AE s.ex.length cE) (.slice AX s.ec.length cX)
 have HR:=veil hR
 clear hR h1 h2
 obtain ⟨wk,fr,tu,ex,ec⟩:=s
 simp only at HR KA KB KS hE0 hS0 hcE hcX ⊢
 obtain ⟨n,hn⟩ : ∃ n,n = ex.length:=⟨_,rfl⟩
 obtain ⟨m,hm⟩ : ∃ m,m = ec.length:=⟨_,rfl⟩
 rw [← hn] at KA KS hcE
 rw [← hm] at KB KS hcX
 rw [← hn,← hm] at hE0 hS0
 simp only [← hn,← hm]
 clear hn hm
 unfold svC at hE0 ⊢
 simp only at hE0 ⊢
 obtain ⟨A,hA⟩ : ∃ A,A = daysB ex:=⟨_,rfl⟩
 obtain ⟨B,hB⟩ : ∃ B,B = daysB ec:=⟨_,rfl⟩
 obtain ⟨F,hFF⟩ : ∃ F,F = farB ex ec:=⟨_,rfl⟩
 rw [← hA] at KA
 rw [← hB] at KB KS
 rw [← hFF] at KS
 have HA:=veil (And.intro hA (And.intro hB hFF))
 clear hA hB hFF
 go_enter Tryz.func45,Tryz.ntmps45
 go_upto_region 1 with (fail)
 unfold SvAt svC at hS0
 simp only at hS0
 obtain ⟨g,hg⟩ : ∃ g,g = w.heap.size:=⟨_,rfl⟩
 rw [← hg] at hS0 ⊢
 generalize w.alloc (.cells #[.int .i64 wk,.int .i64 fr,.int .i64 tu,.slice AE n cE,.slice AX m cX] 49) = w0 at *
 have HS:=veil (show SvAt w0 g ⟨wk,fr,tu,ex,ec⟩ (.slice AE n cE) (.slice AX m cX) from hS0)
 have HE:=veil hE0
 clear hE0 hS0 hg
 have c0:=HS.out.at0
 have c1:=HS.out.at1
 have c2:=HS.out.at2
 have c3:=HS.out.at3
 have c4:=HS.out.at4
 simp only at c0 c1 c2
 by_cases g0 : (0 : Int) ≤ wk
 rotate_left
 ·
  have f0 : decide ((0 : Int) ≤ wk) = false:=decide_eq_false g0
  obtain rfl : R = false:=HR.out.trans (mayV_b (zed fun h => by omega))
  go_wp2_with (fail)
  go_wp2
  go_ret
  exact ⟨rfl,HE.out⟩
 have f0 : decide ((0 : Int) ≤ wk) = true:=decide_eq_true g0
 by_cases g1 : wk ≤ 127
 rotate_left
 ·
  have f1 : decide (wk ≤ 127) = false:=decide_eq_false g1
  obtain rfl : R = false:=HR.out.trans (mayV_b (zed fun h => by omega))
  go_wp2_with (fail)
  go_wp2
  go_ret
  exact ⟨rfl,HE.out⟩
 have f1 : decide (wk ≤ 127) = true:=decide_eq_true g1
 by_cases g2 : (0 : Int) ≤ fr
 rotate_left
 ·
  have f2 : decide ((0 : Int) ≤ fr) = false:=decide_eq_false g2
  obtain rfl : R = false:=HR.out.trans (mayV_b (zed fun h => by omega))
  go_wp2_with (fail)
  go_wp2
  go_ret
  exact ⟨rfl,HE.out⟩
 have f2 : decide ((0 : Int) ≤ fr) = true:=decide_eq_true g2
 by_cases g3 : fr ≤ tu
 rotate_left
 ·
  have f3 : decide (fr ≤ tu) = false:=decide_eq_false g3
  obtain rfl : R = false:=HR.out.trans (mayV_b (zed fun h => by omega))
  go_wp2_with (fail)
  go_wp2
  go_ret
  exact ⟨rfl,HE.out⟩
 have f3 : decide (fr ≤ tu) = true:=decide_eq_true g3
 by_cases g4 : tu ≤ 1048576
 rotate_left
 ·
  have f4 : decide (tu ≤ 1048576) = false:=decide_eq_false g4
  obtain rfl : R = false:=HR.out.trans (mayV_b (zed fun h => by omega))
  go_wp2_with (fail)
  go_wp2
  go_ret
  exact ⟨rfl,HE.out⟩
 have f4 : decide (tu ≤ 1048576) = true:=decide_eq_true g4
 have HB:=veil (boundB_yes (ex:=ex) (ec:=ec) ⟨g0,g1,g2,g3,g4⟩)
 clear g0 g1 g2 g3 g4
 cases A with
 | false =>
  obtain rfl : R = false:=HR.out.trans (mayV_e HA.out.1.symm)
  go_wp2_with (first | (go_at_call 74; with_reducible refine (KA.out _ HE.out).mono ?_; rintro e w1 ⟨rfl,rfl⟩))
  go_ret
  exact ⟨rfl,HE.out⟩
 | true =>
  cases B with
  | false =>
   obtain rfl : R = false:=HR.out.trans (mayV_c HA.out.2.1.symm)
   go_wp2_with (first | (go_at_call 74; with_reducible refine (KA.out _ HE.out).mono ?_; rintro e w1 ⟨rfl,rfl⟩) | (go_at_call 74; with_reducible refine (KB.out _ HE.out).mono ?_; rintro e w1 ⟨rfl,rfl⟩))
   go_ret
   exact ⟨rfl,HE.out⟩
  | true =>
   obtain rfl : R = F:=HR.out.trans ((mayV_all HB.out HA.out.1.symm HA.out.2.1.symm).trans HA.out.2.2.symm)
   cases R with
   | false =>
    go_wp2_with (first | (go_at_call 74; with_reducible refine (KA.out _ HE.out).mono ?_; rintro e w1 ⟨rfl,rfl⟩) | (go_at_call 74; with_reducible refine (KB.out _ HE.out).mono ?_; rintro e w1 ⟨rfl,rfl⟩) | (go_at_call 75; refine (KS.out _ HE.out (by trivial)).mono ?_; rintro e w1 ⟨rfl,hE1⟩))
    go_ret
    exact ⟨rfl,HE.out.trans hE1⟩
   | true =>
    go_wp2_with (first | (go_at_call 74; with_reducible refine (KA.out _ HE.out).mono ?_; rintro e w1 ⟨rfl,rfl⟩) | (go_at_call 74; with_reducible refine (KB.out _ HE.out).mono ?_; rintro e w1 ⟨rfl,rfl⟩) | (go_at_call 75; refine (KS.out _ HE.out (by trivial)).mono ?_; rintro e w1 ⟨rfl,hE1⟩))
    go_ret
    exact ⟨rfl,HE.out.trans hE1⟩
end Go.Proofs.YtbfkecfcolcclaaGreatDoor
