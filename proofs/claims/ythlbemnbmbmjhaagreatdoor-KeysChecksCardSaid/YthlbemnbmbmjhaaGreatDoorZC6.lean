/-
  Of Of Bytes Top RCmp Q3 Q4 Word ROf Q13 Kp J1 Ls TF K1 K2 T6 T8.
-/
import Derived.Test.YthlbemnbmbmjhaaGreatDoorRows
import Derived.WalkKit
import Derived.WalkSpells
import Derived.WalkLawsBesides
import Derived.Deep.LoopGhost
import Derived.Deep.RegionWith
import Derived.Deep.QuietTactic
import Derived.BigQuiet
import Derived.BigRegion
import Derived.Deep.Cut
import Derived.Deep.CutRange
import Derived.Deep.AppendLies
import Derived.Deep.RegionHeld3
import Derived.Deep.MidRow
import Derived.Deep.Slices
import Derived.Laws.OwnMore
import Derived.Maps.AppendAt
import Derived.Laws.IdiomStrings
import Derived.Great.BuildSlice
import Derived.Test.YthlbemnbmbmjhaaGreatDoorZC1
import Derived.Test.YthlbemnbmbmjhaaGreatDoorZC5
import Derived.Test.YthlbemnbmbmjhaaGreatDoorZC3
import Derived.Test.YthlbemnbmbmjhaaGreatDoorZC2
set_option maxRecDepth 1000000
set_option maxHeartbeats 20000000
namespace Go.Proofs.YthlbemnbmbmjhaaGreatDoor
open Go.RowKit
open Go.Value renaming int → vI
open Go.IntKind renaming u64 → vU
open Go.Act renaming put → aP
open List renaming setIfInBounds_toArray → lA, set_cons_zero → lZ, set_cons_succ → lS
def lev (z : Nat → Nat) : Nat → Nat
 | 0 => 0
 | i + 1 => lev z i + z i * 256 ^ i
theorem zjt {z : Nat → Nat} (hz : ∀ j,z j < 256) : ∀ i,lev z i < 256 ^ i
 | 0 => by simp [lev]
 | i + 1 => by
  have h:=zjt hz i
  have h2 : z i * 256 ^ i ≤ 255 * 256 ^ i:=Nat.mul_le_mul_right _ (by have:=hz i; omega)
  show lev z i + z i * 256 ^ i < _
  rw [Nat.pow_succ]
  omega
theorem dg_put (m q r L c : Nat) (hr : r < m) (hL : L < 256 ^ (m * q + r)) (hc : c < 256) (j : Nat) :
  dg (256 ^ m) (L + c * 256 ^ (m * q + r)) j = if j = q then dg (256 ^ m) L j + c * 256 ^ r else dg (256 ^ m) L j:=by
 have hB : 0 < 256 ^ m:=Nat.pow_pos (by omega)
 have hp : ∀ k,0 < (256 ^ m) ^ k:=fun k => Nat.pow_pos hB
 have e : 256 ^ (m * q + r) = (256 ^ m) ^ q * 256 ^ r:=by rw [Nat.pow_add,Nat.pow_mul]
 have hrm : 256 ^ r * 256 ≤ 256 ^ m:=by rw [← Nat.pow_succ]; exact Nat.pow_le_pow_right (by omega) hr
 rw [e] at hL ⊢
 have hLq : L / (256 ^ m) ^ q < 256 ^ r:=by rw [Nat.div_lt_iff_lt_mul (hp q),Nat.mul_comm]; exact hL
 have hcr : c * 256 ^ r ≤ 255 * 256 ^ r:=Nat.mul_le_mul_right _ (by omega)
 rw [show c * ((256 ^ m) ^ q * 256 ^ r) = (256 ^ m) ^ q * (c * 256 ^ r) by rw [Nat.mul_left_comm]]
 by_cases hj : j = q
 ·
  subst hj
  rw [if_pos rfl]
  unfold dg
  rw [Nat.add_mul_div_left _ _ (hp j),Nat.mod_eq_of_lt (by omega),Nat.mod_eq_of_lt (by omega)]
 ·
  rw [if_neg hj]
  by_cases hlt : j < q
  ·
   rw [← zdk _ q j hlt,Nat.add_mul_mod_self_left,zdk _ q j hlt]
  ·
   have hjq : q + 1 ≤ j:=by omega
   have hle : (256 ^ m) ^ (q + 1) ≤ (256 ^ m) ^ j:=Nat.pow_le_pow_right hB hjq
   rw [Nat.pow_succ] at hle
   have h1 : (256 ^ m) ^ q * (256 ^ r + c * 256 ^ r) ≤ (256 ^ m) ^ q * 256 ^ m:=Nat.mul_le_mul_left _ (by omega)
   rw [Nat.mul_add] at h1
   unfold dg
   rw [Nat.div_eq_of_lt (show L < _ by omega),Nat.div_eq_of_lt (show L + (256 ^ m) ^ q * (c * 256 ^ r) < _ by omega)]
theorem w64_bytes : w64 = 256 ^ 8:=by decide
theorem w16_bytes : w16 = 256 ^ 2:=by decide
theorem two_256 (r : Nat) : 2 ^ (r * 8) = 256 ^ r:=by rw [Nat.mul_comm,Nat.pow_mul]
theorem wd_put (L c k j : Nat) (hL : L < 256 ^ k) (hc : c < 256) : wd (L + c * 256 ^ k) j = if j = k / 8 then wd L j + (c * 256 ^ (k % 8) : Nat) else wd L j:=by
 have h:=dg_put 8 (k / 8) (k % 8) L c (Nat.mod_lt _ (by omega)) (by rw [Nat.div_add_mod]; exact hL) hc j
 rw [Nat.div_add_mod,← w64_bytes] at h
 unfold wd
 rw [h]
 split
 ·
  rw [Int.natCast_add]
 ·
  rfl
theorem of_word (L c k : Nat) (hL : L < 256 ^ k) (hc : c < 256) : bits .or .u64 (wd L (k / 8)) (IntKind.u64.wrap ((c : Int) * 2 ^ (k % 8 * 8))) = wd (L + c * 256 ^ k) (k / 8):=by
 have hr : k % 8 < 8:=Nat.mod_lt _ (by omega)
 have hp : 256 ^ (k % 8) ≤ 256 ^ 7:=Nat.pow_le_pow_right (by omega) (by omega)
 have h7 : (256 : Nat) ^ 7 = 72057594037927936:=by decide
 have hcr : c * 256 ^ (k % 8) ≤ 255 * 256 ^ (k % 8):=Nat.mul_le_mul_right _ (by omega)
 have hq : dg w64 L (k / 8) < 256 ^ (k % 8):=by
  have e : 256 ^ k = w64 ^ (k / 8) * 256 ^ (k % 8):=by
   rw [w64_bytes,← Nat.pow_mul,← Nat.pow_add,Nat.div_add_mod]
  unfold dg
  refine Nat.lt_of_le_of_lt (Nat.mod_le _ _) ?_
  rw [Nat.div_lt_iff_lt_mul (Nat.pow_pos zba),Nat.mul_comm,← e]
  exact hL
 have ec : (c : Int) * 2 ^ (k % 8 * 8) = ((c * 256 ^ (k % 8) : Nat) : Int):=by
  rw [← two_256,Int.natCast_mul,Int.natCast_pow]
  rfl
 rw [wd_put L c k _ hL hc,if_pos rfl,ec,IntKind.wrap_u64]
 unfold wd
 rw [show ((c * 256 ^ (k % 8) : Nat) : Int) % 18446744073709551616 = ((c * 256 ^ (k % 8) : Nat) : Int) by omega]
 rw [u64_or_nat _ _ (by omega) (by omega),Nat.or_comm,nat_join (8 * (k % 8)) _ _ (by rw [Nat.mul_comm 8,two_256]; exact Nat.mul_mod_left _ _) (by rw [Nat.mul_comm 8,two_256]; exact hq)]
 omega
theorem of_step (z : Nat → Nat) (k : Nat) (hz : ∀ j,z j < 256) (i : Nat) :
  (if i = k / 8 then Value.int .u64 (wd (lev z k + z k * 256 ^ k) (k / 8)) else Value.int .u64 (wd (lev z k) i)) = Value.int .u64 (wd (lev z (k + 1)) i):=by
 show _ = Value.int .u64 (wd (lev z k + z k * 256 ^ k) i)
 by_cases h : i = k / 8
 ·
  rw [if_pos h,h]
 ·
  rw [if_neg h,wd_put _ _ _ _ (zjt hz k) (hz k),if_neg h]
theorem zke (i : Nat) : wd 0 i = 0:=by unfold wd dg; simp
theorem of_some (b o n c : Nat) (y : Nat → Nat) (hy : ∀ j,y j < 256) (hn : n ≤ 32) (w : World) (hb : b < w.heap.size) (hcell : ∀ j,j < n → w.cell? ⟨b,o + j,none⟩ = some (.int .u8 (y j))) :
  Calls Tryz.prog 81 #[.slice (some ⟨b,o,none⟩) n c] w fun e w' => e = .returned (.tuple #[.agg #[vI vU (wd (lev (fun k => y (n - 1 - k)) n) 0),vI vU (wd (lev (fun k => y (n - 1 - k)) n) 1),vI vU (wd (lev (fun k => y (n - 1 - k)) n) 2),vI vU (wd (lev (fun k => y (n - 1 - k)) n) 3)],.nilIface]) ∧ Below w.heap.size w w':=by
 have HY:=veil hy
 have HC:=veil hcell
 clear hy hcell
 have hn' : (n : Int) ≤ 32:=by omega
 go_enter Tryz.func81,Tryz.ntmps81
 go_wp2
 go_loopw [13] (fun i wr => ∃ k : Nat,k ≤ n ∧ i = .int .i64 k ∧ wr.rowIs w.heap.size 27 4 (fun _ => .int .u64 0) ∧ wr.rowIs (w.heap.size + 1) 27 4 (fun j => .int .u64 (wd (lev (fun k => y (n - 1 - k)) k) j)) ∧ Below w.heap.size w wr)
  (fun i _ => n - (intOf i).toNat)
 case atStart => exact ⟨0,by omega,rfl,(zae (n:=4) rfl rfl (arr4 fun _ => .int .u64 0)).alloc _,(zae (n:=4) (f:=fun _ => .int .u64 0) (by simp) rfl (arr4 fun _ => .int .u64 0)).congr (fun i _ => by rw [lev,zke]),((Below.refl _ _).alloc (by simp) _).alloc (by simp) _⟩
 case round =>
  obtain ⟨k,hk,rfl,hR,hS,hbel⟩:=hrel
  by_cases hlt : k < n
  ·
   have hk8 : k / 8 < 4:=by omega
   have c1:=hS.cell hk8
   have f1:=hS.frozen (k / 8)
   obtain ⟨j,hj⟩ : ∃ j,j = n - 1 - k:=⟨_,rfl⟩
   have hji : (n : Int) - 1 - (k : Int) = (j : Int):=by omega
   have hjn : (j : Int) < (n : Int):=by omega
   have hkn : (k : Int) < (n : Int):=by omega
   have c2:=(hbel.cell (p:=⟨b,o + j,none⟩) hb).trans (HC.out j (by omega))
   have l1:=wd_lo (lev (fun k => y (n - 1 - k)) k) (k / 8)
   have u1:=wd_le (lev (fun k => y (n - 1 - k)) k) (k / 8)
   have u2 : (y j : Int) ≤ 255:=by have:=HY.out j; omega
   have hst:=of_step (fun k => y (n - 1 - k)) k (fun j => HY.out _)
   have HS:=veil hst
   clear hst
   have HJ:=veil hj
   clear hj
   go_wp2
   go_region
   all_goals
    go_wp2
    go_roundw
    case rel =>
     rw [show y j = y (n - 1 - k) by rw [HJ.out],of_word _ _ _ (zjt (fun j => HY.out _) k) (HY.out _)]
     exact ⟨k + 1,by omega,by go_num,(zau hR (by omega) _).drew,((hS.set (k / 8) _).congr fun i _ => HS.out i).drew,(zaq hbel (by omega) _).drew⟩
    case measure => simp [intOf]; omega
  ·
   obtain rfl : k = n:=by omega
   obtain ⟨c0,c1,c2,c3⟩:=zac hS
   obtain ⟨d0,d1,d2,d3⟩:=zac hR
   obtain ⟨f0,f1,f2,f3⟩:=zaf hR
   go_wp2
   refine bodyPost_ret (zbt rfl _ _ w.heap.size 27 #[vI vU (wd (lev (fun j => y (k - 1 - j)) k) 0),vI vU (wd (lev (fun j => y (k - 1 - j)) k) 1),vI vU (wd (lev (fun j => y (k - 1 - j)) k) 2),vI vU (wd (lev (fun j => y (k - 1 - j)) k) 3)] (0,0) 4 25 rfl (blk4 (put4 hR fun j => .int .u64 (wd (lev (fun j => y (k - 1 - j)) k) j))) Tryz.underlying27 (by kernel_rfl)) rfl ⟨rfl,zai hbel (Nat.le_refl _) _ _ _ _⟩
theorem row_filled {w : World} {z : Value} {n b t : Nat} (hb : b = w.heap.size) : (w.alloc (.cells (madeCells #[z] n) t)).rowIs b t n (fun _ => z):=by
 subst hb
 exact World.rowIs_made w z n t
end Go.Proofs.YthlbemnbmbmjhaaGreatDoor
namespace Go.Proofs.YthlbemnbmbmjhaaGreatDoor
theorem top_w16 : top = w16 ^ 16:=by unfold top; rw [w64_w16,← Nat.pow_mul]
end Go.Proofs.YthlbemnbmbmjhaaGreatDoor
namespace Go.Proofs.YthlbemnbmbmjhaaGreatDoor
open Go.RowKit
open Go.Value renaming int → vI
open Go.IntKind renaming u64 → vU
open Go.Act renaming put → aP
open List renaming setIfInBounds_toArray → lA, set_cons_zero → lZ, set_cons_succ → lS
def cmpK (X Y k : Nat) : Int:=cmpN (X % w16 ^ k) (Y % w16 ^ k)
theorem cmpK_lt {X Y k : Nat} (h : pt X k < pt Y k) : cmpK X Y (k + 1) = -1:=by
 unfold pt at h
 unfold cmpK
 rw [zky _ _ _ _ zkg,if_pos (by omega)]
theorem cmpK_gt {X Y k : Nat} (h : pt Y k < pt X k) : cmpK X Y (k + 1) = 1:=by
 unfold pt at h
 unfold cmpK
 rw [zky _ _ _ _ zkg,if_neg (by omega),if_pos (by omega)]
theorem cmpK_eq {X Y k : Nat} (h : pt X k = pt Y k) : cmpK X Y (k + 1) = cmpK X Y k:=by
 unfold pt at h
 unfold cmpK
 rw [zky _ _ _ _ zkg,if_neg (by omega),if_neg (by omega)]
theorem cmpK_top {X Y : Nat} (hX : X < top) (hY : Y < top) : cmpK X Y 16 = cmpN X Y:=by
 rw [top_w16] at *
 unfold cmpK
 rw [Nat.mod_eq_of_lt hX,Nat.mod_eq_of_lt hY]
theorem zdt (X Y : Nat) (hX : X < top) (hY : Y < top) (w : World) :
  Calls Tryz.prog 40 #[.agg #[vI vU (wd X 0),vI vU (wd X 1),vI vU (wd X 2),vI vU (wd X 3)],.agg #[vI vU (wd Y 0),vI vU (wd Y 1),vI vU (wd Y 2),vI vU (wd Y 3)]] w fun e w' => e = .returned (.int .i64 (cmpN X Y)) ∧ Below w.heap.size w w':=by
 have hRB : ((w.alloc (.cells #[vI vU (wd X 0),vI vU (wd X 1),vI vU (wd X 2),vI vU (wd X 3)] 27)).alloc (.cells #[vI vU (wd Y 0),vI vU (wd Y 1),vI vU (wd Y 2),vI vU (wd Y 3)] 27)).rowIs (w.heap.size + 1) 27 4 (fun j => .int .u64 (wd Y j)):=zae (n:=4) (by simp) rfl (arr4 fun j => .int .u64 (wd Y j))
 have hB0 : Below w.heap.size w ((w.alloc (.cells #[vI vU (wd X 0),vI vU (wd X 1),vI vU (wd X 2),vI vU (wd X 3)] 27)).alloc (.cells #[vI vU (wd Y 0),vI vU (wd Y 1),vI vU (wd Y 2),vI vU (wd Y 3)] 27)):=((Below.refl _ _).alloc (by simp) _).alloc (by simp) _
 go_enter Tryz.func40,Tryz.ntmps40
 go_wp2_with fail
 refine (zhw X _).mono ?_
 rintro e w1 ⟨g1,cap1,rfl,hg1,hp1a,hb1⟩
 simp only [World.size_alloc] at hg1
 have hRB1:=zaa hRB hb1 (by simp)
 have hB1:=hB0.trans (hb1.mono (by simp; omega))
 clear hRB hB0 hb1
 obtain ⟨c0,c1,c2,c3⟩:=zac hRB1
 go_wp2_with fail
 refine (zhw Y _).mono ?_
 rintro e w2 ⟨g2,cap2,rfl,hg2,hp2b,hb2⟩
 have hp1b:=hp1a.below hb2 hp1a.lt
 have hB2:=hB1.trans (hb2.mono hB1.size)
 clear hRB1 hB1 hb2 c0 c1 c2 c3 hp1a hg2 hg1
 go_wp2
 go_loopw [7,8] (fun c i wr => ∃ k : Nat,k ≤ 16 ∧ i = .int .i64 k ∧ c = .int .i64 (cmpK X Y k) ∧ Pre wr g1 3 16 (ptv X) ∧ Pre wr g2 3 16 (ptv Y) ∧ Below w.heap.size w wr)
  (fun _ i _ => 16 - (intOf i).toNat)
 case atStart => exact ⟨0,by omega,rfl,by simp [cmpK,cmpN,Nat.mod_one],hp1b,hp2b,hB2⟩
 case round =>
  clear hp1b hp2b hB2
  obtain ⟨k,hk,rfl,rfl,hp1,hp2,hbel⟩:=hrel
  by_cases hlt : k < 16
  ·
   have c1:=hp1.cell hlt
   have c2:=hp2.cell hlt
   simp only [ptv] at c1 c2
   go_wp2
   rcases Int.lt_trichotomy (pt X k) (pt Y k) with h | h | h
   ·
    have h2 : ¬ pt Y k < pt X k:=by omega
    go_quiet (fail)
    go_wp2
    go_quiet (fail)
    go_wp2
    go_roundw
    case rel => exact ⟨k + 1,by omega,by go_num,by rw [cmpK_lt h],hp1.drewN _,hp2.drewN _,zbf hbel _⟩
    case measure => simp [intOf]; omega
   ·
    have h1 : ¬ pt X k < pt Y k:=by omega
    have h2 : ¬ pt Y k < pt X k:=by omega
    have H:=veil h
    clear h
    go_quiet (fail)
    go_wp2
    go_quiet (fail)
    go_wp2
    go_roundw
    case rel => exact ⟨k + 1,by omega,by go_num,by rw [cmpK_eq H.out],hp1.drewN _,hp2.drewN _,zbf hbel _⟩
    case measure => simp [intOf]; omega
   ·
    have h1 : ¬ pt X k < pt Y k:=by omega
    go_quiet (fail)
    go_wp2
    go_quiet (fail)
    go_wp2
    go_roundw
    case rel => exact ⟨k + 1,by omega,by go_num,by rw [cmpK_gt h],hp1.drewN _,hp2.drewN _,zbf hbel _⟩
    case measure => simp [intOf]; omega
  ·
   obtain rfl : k = 16:=by omega
   go_wp2
   go_ret
   rw [← cmpK_top hX hY]
   exact ⟨rfl,hbel⟩
def rightN (X : Nat) : Nat:=((X * X % Pt.pp * X % Pt.pp + Pt.pp - 3 * X % Pt.pp) % Pt.pp + Pt.bb) % Pt.pp
def onB (X Y : Nat) (f : Bool) : Bool:=if f then decide (X = 0) && decide (Y = 0) else decide (X < Pt.pp) && (decide (Y < Pt.pp) && decide (Y * Y % Pt.pp = rightN X))
theorem eql_zero {X : Nat} (hX : X < top) (w : World) : (binOp .eql 27 (.agg #[vI vU (wd X 0),vI vU (wd X 1),vI vU (wd X 2),vI vU (wd X 3)]) (.agg #[vI vU 0,vI vU 0,vI vU 0,vI vU 0])).run Tryz.prog w = .ok (.bool (decide (X = 0))) w:=by
 have h:=zjb hX (show 0 < top by decide) w
 have e0 : ∀ i,wd 0 i = 0:=by intro i; unfold wd dg; simp
 simp only [e0] at h
 exact h
theorem ron_far (X Y : Nat) (hX : X < top) (hY : Y < top) (w : World) :
  Calls Tryz.prog 21 #[.agg #[vI vU (wd X 0),vI vU (wd X 1),vI vU (wd X 2),vI vU (wd X 3),vI vU (wd Y 0),vI vU (wd Y 1),vI vU (wd Y 2),vI vU (wd Y 3),.bool (true)]] w fun e w' => e = .returned (.bool (decide (X = 0) && decide (Y = 0))) ∧ Below w.heap.size w w':=by
 have hR:=zdj (w:=w) (b:=w.heap.size) X Y true (t:=29) rfl
 have hB : Below w.heap.size w (w.alloc (.cells #[vI vU (wd X 0),vI vU (wd X 1),vI vU (wd X 2),vI vU (wd X 3),vI vU (wd Y 0),vI vU (wd Y 1),vI vU (wd Y 2),vI vU (wd Y 3),.bool (true)] 29)):=(Below.refl _ _).alloc (Nat.le_refl _) _
 obtain ⟨x0,x1,x2,x3⟩:=pt_x hR
 obtain ⟨y0,y1,y2,y3⟩:=pt_y hR
 have f0:=pt_f hR
 have kx:=fun W => eql_zero hX W
 have ky:=fun W => eql_zero hY W
 obtain ⟨bx,hbx⟩ : ∃ b,b = decide (X = 0):=⟨_,rfl⟩
 obtain ⟨by',hby⟩ : ∃ b,b = decide (Y = 0):=⟨_,rfl⟩
 rw [← hbx] at kx ⊢
 rw [← hby] at ky ⊢
 clear hbx hby hR hX hY
 cases bx
 all_goals
  go_enter Tryz.func21,Tryz.ntmps21
  go_upto_region 1 with (fail)
  generalize w.alloc (.cells #[vI vU (wd X 0),vI vU (wd X 1),vI vU (wd X 2),vI vU (wd X 3),vI vU (wd Y 0),vI vU (wd Y 1),vI vU (wd Y 2),vI vU (wd Y 3),.bool (true)] 29) = wz at *
  go_wp2
  go_ret
  exact ⟨by simp,hB⟩
theorem ron_out (X Y : Nat) (hX : X < top) (hlt : ¬ X < Pt.pp) (w : World) :
  Calls Tryz.prog 21 #[.agg #[vI vU (wd X 0),vI vU (wd X 1),vI vU (wd X 2),vI vU (wd X 3),vI vU (wd Y 0),vI vU (wd Y 1),vI vU (wd Y 2),vI vU (wd Y 3),.bool (false)]] w fun e w' => e = .returned (.bool false) ∧ Below w.heap.size w w':=by
 have hR:=zdj (w:=w) (b:=w.heap.size) X Y false (t:=29) rfl
 have hB : Below w.heap.size w (w.alloc (.cells #[vI vU (wd X 0),vI vU (wd X 1),vI vU (wd X 2),vI vU (wd X 3),vI vU (wd Y 0),vI vU (wd Y 1),vI vU (wd Y 2),vI vU (wd Y 3),.bool (false)] 29)):=(Below.refl _ _).alloc (Nat.le_refl _) _
 obtain ⟨x0,x1,x2,x3⟩:=pt_x hR
 have f0:=pt_f hR
 have lz:=hR.lt
 obtain ⟨M,hM⟩ : ∃ M,M = Pt.pp:=⟨_,rfl⟩
 have HP:=veil (show ∀ W,Calls Tryz.prog 41 #[] W fun e W' => e = .returned (.agg #[vI vU (wd M 0),vI vU (wd M 1),vI vU (wd M 2),vI vU (wd M 3)]) ∧ Below W.heap.size W W' from fun W => by rw [hM]; exact zfx W)
 rw [← hM] at hlt
 have hMt : M < top:=by rw [hM]; exact zbb
 clear hM
 have hc : cmpN X M = 0 ∨ cmpN X M = 1:=by
  unfold cmpN
  rw [if_neg (by omega)]
  split <;> simp
 obtain ⟨c,hcc⟩ : ∃ c,c = cmpN X M:=⟨_,rfl⟩
 rw [← hcc] at hc
 have HC:=veil (show ∀ W,Calls Tryz.prog 40 #[.agg #[vI vU (wd X 0),vI vU (wd X 1),vI vU (wd X 2),vI vU (wd X 3)],.agg #[vI vU (wd M 0),vI vU (wd M 1),vI vU (wd M 2),vI vU (wd M 3)]] W fun e W' => e = .returned (.int .i64 c) ∧ Below W.heap.size W W' from fun W => by rw [hcc]; exact zdt X M hX hMt W)
 clear hcc hlt hX hMt hR
 rcases hc with rfl | rfl
 all_goals
  go_enter Tryz.func21,Tryz.ntmps21
  go_upto_region 3 with (fail)
  generalize w.alloc (.cells #[vI vU (wd X 0),vI vU (wd X 1),vI vU (wd X 2),vI vU (wd X 3),vI vU (wd Y 0),vI vU (wd Y 1),vI vU (wd Y 2),vI vU (wd Y 3),.bool (false)] 29) = wz at *
  refine wp_region_held_drew (S:=fun w' => (∀ b o,b < wz.heap.size → w'.cell? ⟨b,o,none⟩ = wz.cell? ⟨b,o,none⟩) ∧ Below wz.heap.size wz w') (by kernel_rfl) (zcm _) (fun hH => ?_)
  repeat
   ((first
     | (refine wpAnyH_take (i:=0) (v:=.pointer (some ⟨w.heap.size,0,none⟩)) rfl (by kernel_rfl) (by kernel_rfl) (by decide +kernel) (fun _ _ _ h => h) (Or.inl ⟨by rfl,fun W hSw => (by dsimp only at hSw; go_simp)⟩) (by with_reducible assumption) ?_)
     | (refine wpAnyH_take (i:=1) (v:=.agg #[vI vU (wd X 0),vI vU (wd X 1),vI vU (wd X 2),vI vU (wd X 3)]) rfl (by kernel_rfl) (by kernel_rfl) (by decide +kernel) (fun _ _ _ h => h) (Or.inl ⟨by rfl,fun W hSw => (by dsimp only at hSw; go_simp)⟩) (by with_reducible assumption) ?_)
     | (refine wpAnyH_ready (rs:=[2]) (by decide +kernel) (by simp) ?_; refine AllReadyH.cons rfl (fun K hK => ?_) AllReadyH.nil; go_simp; refine (HP.out _).mono ?_; rintro e w1 ⟨rfl,hb⟩; refine hK.out _ _ (zct hb hH) (fun hH => ?_); clear hK K)
     | (refine wpAnyH_ready (rs:=[3]) (by decide +kernel) (by simp) ?_; refine AllReadyH.cons rfl (fun K hK => ?_) AllReadyH.nil; go_simp; refine (HC.out _).mono ?_; rintro e w2 ⟨rfl,hb⟩; refine hK.out _ _ (zct hb hH) (fun hH => ?_); clear hK K)
     | (refine wpAnyH_take (i:=4) (v:=.bool true) rfl (by kernel_rfl) (by kernel_rfl) (by decide +kernel) (fun _ _ _ h => h) (Or.inl ⟨by rfl,fun W hSw => (by dsimp only at hSw; go_simp)⟩) (by with_reducible assumption) ?_)
     | (refine wpAnyH_take (i:=5) (v:=.bool true) rfl (by kernel_rfl) (by kernel_rfl) (by decide +kernel) (fun _ _ _ h => h) (Or.inl ⟨by rfl,fun W hSw => (by dsimp only at hSw; go_simp)⟩) (by with_reducible assumption) ?_)
     | (refine wpAnyH_take (i:=6) (v:=undef) rfl (by kernel_rfl) (by kernel_rfl) (by decide +kernel) (fun _ _ _ h => h) (Or.inr ⟨by rfl,rfl⟩) (by with_reducible assumption) ?_)
     | (refine wpAnyH_take (i:=7) (v:=undef) rfl (by kernel_rfl) (by kernel_rfl) (by decide +kernel) (fun _ _ _ h => h) (Or.inr ⟨by rfl,rfl⟩) (by with_reducible assumption) ?_)
     | (refine wpAnyH_take (i:=8) (v:=undef) rfl (by kernel_rfl) (by kernel_rfl) (by decide +kernel) (fun _ _ _ h => h) (Or.inr ⟨by rfl,rfl⟩) (by with_reducible assumption) ?_)
     | (refine wpAnyH_take (i:=9) (v:=undef) rfl (by kernel_rfl) (by kernel_rfl) (by decide +kernel) (fun _ _ _ h => h) (Or.inr ⟨by rfl,rfl⟩) (by with_reducible assumption) ?_)
     | (refine wpAnyH_take (i:=10) (v:=undef) rfl (by kernel_rfl) (by kernel_rfl) (by decide +kernel) (fun _ _ _ h => h) (Or.inr ⟨by rfl,rfl⟩) (by with_reducible assumption) ?_)
     | (refine wpAnyH_take (i:=11) (v:=.bool true) rfl (by kernel_rfl) (by kernel_rfl) (by decide +kernel) (fun _ _ _ h => h) (Or.inl ⟨by rfl,fun W hSw => (by dsimp only at hSw; go_simp)⟩) (by with_reducible assumption) ?_)
     | fail);
    try simp only [Act.put,List.setIfInBounds_toArray,List.set_cons_zero,List.set_cons_succ,List.getElem_toArray,List.getElem_cons_zero,List.getElem_cons_succ])
  refine wpAnyH_done (by decide +kernel) ?_ _
  clear x0 x1 x2 x3 f0
  go_wp2
  go_ret
  exact ⟨rfl,hB.trans (hH.2.mono hB.size)⟩
theorem ron_high (X Y : Nat) (hX : X < Pt.pp) (hY : Y < top) (hlt : ¬ Y < Pt.pp) (w : World) :
  Calls Tryz.prog 21 #[.agg #[vI vU (wd X 0),vI vU (wd X 1),vI vU (wd X 2),vI vU (wd X 3),vI vU (wd Y 0),vI vU (wd Y 1),vI vU (wd Y 2),vI vU (wd Y 3),.bool (false)]] w fun e w' => e = .returned (.bool false) ∧ Below w.heap.size w w':=by
 have hR:=zdj (w:=w) (b:=w.heap.size) X Y false (t:=29) rfl
 have hB : Below w.heap.size w (w.alloc (.cells #[vI vU (wd X 0),vI vU (wd X 1),vI vU (wd X 2),vI vU (wd X 3),vI vU (wd Y 0),vI vU (wd Y 1),vI vU (wd Y 2),vI vU (wd Y 3),.bool (false)] 29)):=(Below.refl _ _).alloc (Nat.le_refl _) _
 obtain ⟨x0,x1,x2,x3⟩:=pt_x hR
 obtain ⟨y0,y1,y2,y3⟩:=pt_y hR
 have f0:=pt_f hR
 have lz:=hR.lt
 obtain ⟨M,hM⟩ : ∃ M,M = Pt.pp:=⟨_,rfl⟩
 have HP:=veil (show ∀ W,Calls Tryz.prog 41 #[] W fun e W' => e = .returned (.agg #[vI vU (wd M 0),vI vU (wd M 1),vI vU (wd M 2),vI vU (wd M 3)]) ∧ Below W.heap.size W W' from fun W => by rw [hM]; exact zfx W)
 rw [← hM] at hlt hX
 have hMt : M < top:=by rw [hM]; exact zbb
 clear hM
 have hc : cmpN Y M = 0 ∨ cmpN Y M = 1:=by
  unfold cmpN
  rw [if_neg (by omega)]
  split <;> simp
 have hcx : cmpN X M = -1:=by
  unfold cmpN
  rw [if_pos hX]
 obtain ⟨c,hcc⟩ : ∃ c,c = cmpN Y M:=⟨_,rfl⟩
 rw [← hcc] at hc
 have HC:=veil (show ∀ W,Calls Tryz.prog 40 #[.agg #[vI vU (wd X 0),vI vU (wd X 1),vI vU (wd X 2),vI vU (wd X 3)],.agg #[vI vU (wd M 0),vI vU (wd M 1),vI vU (wd M 2),vI vU (wd M 3)]] W fun e W' => e = .returned (.int .i64 (-1)) ∧ Below W.heap.size W W' from fun W => by rw [← hcx]; exact zdt X M (by omega) hMt W)
 have HD:=veil (show ∀ W,Calls Tryz.prog 40 #[.agg #[vI vU (wd Y 0),vI vU (wd Y 1),vI vU (wd Y 2),vI vU (wd Y 3)],.agg #[vI vU (wd M 0),vI vU (wd M 1),vI vU (wd M 2),vI vU (wd M 3)]] W fun e W' => e = .returned (.int .i64 c) ∧ Below W.heap.size W W' from fun W => by rw [hcc]; exact zdt Y M hY hMt W)
 clear hcc hcx hlt hX hMt hR hY
 rcases hc with rfl | rfl
 all_goals
  go_enter Tryz.func21,Tryz.ntmps21
  go_upto_region 3 with (fail)
  generalize w.alloc (.cells #[vI vU (wd X 0),vI vU (wd X 1),vI vU (wd X 2),vI vU (wd X 3),vI vU (wd Y 0),vI vU (wd Y 1),vI vU (wd Y 2),vI vU (wd Y 3),.bool (false)] 29) = wz at *
  go_region_held3 (fun w' => (∀ b o,b < wz.heap.size → w'.cell? ⟨b,o,none⟩ = wz.cell? ⟨b,o,none⟩) ∧ Below wz.heap.size wz w')
   (first
    | with_reducible assumption
    | with_reducible exact zcm _
    | with_reducible exact zct (by assumption) (by assumption)
    | fail)
   (first
    | (go_at_call 41; refine (HP.out _).mono ?_; rintro e w1 ⟨rfl,hb1⟩)
    | (go_at_call 40; first | ((with_reducible refine (HC.out _).mono ?_); rintro e w2 ⟨rfl,hb2⟩) | ((with_reducible refine (HD.out _).mono ?_); rintro e w3 ⟨rfl,hb3⟩)))
  rename (_ ∧ Below wz.heap.size wz _) => hH
  clear x0 x1 x2 x3 y0 y1 y2 y3 f0
  go_wp2
  go_ret
  exact ⟨rfl,hB.trans (hH.2.mono hB.size)⟩
theorem lits3 : wd 3 0 = 3 ∧ wd 3 1 = 0 ∧ wd 3 2 = 0 ∧ wd 3 3 = 0:=by decide
theorem three_lt : 3 < Pt.pp:=by decide +kernel
theorem bb_lt : Pt.bb < Pt.pp:=by decide +kernel
theorem ron_near (X Y : Nat) (hX : X < Pt.pp) (hY : Y < Pt.pp) (w : World) :
  Calls Tryz.prog 21 #[.agg #[vI vU (wd X 0),vI vU (wd X 1),vI vU (wd X 2),vI vU (wd X 3),vI vU (wd Y 0),vI vU (wd Y 1),vI vU (wd Y 2),vI vU (wd Y 3),.bool (false)]] w fun e w' => e = .returned (.bool (decide (Y * Y % Pt.pp = rightN X))) ∧ Below w.heap.size w w':=by
 have hR:=zdj (w:=w) (b:=w.heap.size) X Y false (t:=29) rfl
 have hB : Below w.heap.size w (w.alloc (.cells #[vI vU (wd X 0),vI vU (wd X 1),vI vU (wd X 2),vI vU (wd X 3),vI vU (wd Y 0),vI vU (wd Y 1),vI vU (wd Y 2),vI vU (wd Y 3),.bool (false)] 29)):=(Below.refl _ _).alloc (Nat.le_refl _) _
 have hmod : ∀ a,a % Pt.pp < Pt.pp:=fun a => Nat.mod_lt _ zgj
 obtain ⟨A,hA⟩ : ∃ A,A = X * X % Pt.pp:=⟨_,rfl⟩
 obtain ⟨B,hBB⟩ : ∃ B,B = A * X % Pt.pp:=⟨_,rfl⟩
 obtain ⟨C,hC⟩ : ∃ C,C = 3 * X % Pt.pp:=⟨_,rfl⟩
 obtain ⟨D,hD⟩ : ∃ D,D = (B + Pt.pp - C) % Pt.pp:=⟨_,rfl⟩
 obtain ⟨R,hRR⟩ : ∃ R,R = (D + Pt.bb) % Pt.pp:=⟨_,rfl⟩
 obtain ⟨Q,hQ⟩ : ∃ Q,Q = Y * Y % Pt.pp:=⟨_,rfl⟩
 have hfin : rightN X = R:=by unfold rightN; rw [← hA,← hBB,← hC,← hD,← hRR]
 rw [hfin,← hQ]
 obtain ⟨M,hM⟩ : ∃ M,M = Pt.pp:=⟨_,rfl⟩
 obtain ⟨K,hK⟩ : ∃ K,K = Pt.bb:=⟨_,rfl⟩
 have lX : X < top:=Nat.lt_trans hX zbb
 have lY : Y < top:=Nat.lt_trans hY zbb
 have lA : A < Pt.pp:=by rw [hA]; exact hmod _
 have lB : B < Pt.pp:=by rw [hBB]; exact hmod _
 have lC : C < Pt.pp:=by rw [hC]; exact hmod _
 have lD : D < Pt.pp:=by rw [hD]; exact hmod _
 have lR : R < top:=by rw [hRR]; exact Nat.lt_trans (hmod _) zbb
 have lQ : Q < top:=by rw [hQ]; exact Nat.lt_trans (hmod _) zbb
 have hcx : cmpN X Pt.pp = -1:=by unfold cmpN; rw [if_pos hX]
 have hcy : cmpN Y Pt.pp = -1:=by unfold cmpN; rw [if_pos hY]
 obtain ⟨l0,l1,l2,l3⟩:=lits3
 have HP:=veil (show ∀ W,Calls Tryz.prog 41 #[] W fun e W' => e = .returned (.agg #[vI vU (wd M 0),vI vU (wd M 1),vI vU (wd M 2),vI vU (wd M 3)]) ∧ Below W.heap.size W W' from fun W => by rw [hM]; exact zfx W)
 have HCX:=veil (show ∀ W,Calls Tryz.prog 40 #[.agg #[vI vU (wd X 0),vI vU (wd X 1),vI vU (wd X 2),vI vU (wd X 3)],.agg #[vI vU (wd M 0),vI vU (wd M 1),vI vU (wd M 2),vI vU (wd M 3)]] W fun e W' => e = .returned (.int .i64 (-1)) ∧ Below W.heap.size W W' from fun W => by rw [hM,← hcx]; exact zdt X Pt.pp lX zbb W)
 have HCY:=veil (show ∀ W,Calls Tryz.prog 40 #[.agg #[vI vU (wd Y 0),vI vU (wd Y 1),vI vU (wd Y 2),vI vU (wd Y 3)],.agg #[vI vU (wd M 0),vI vU (wd M 1),vI vU (wd M 2),vI vU (wd M 3)]] W fun e W' => e = .returned (.int .i64 (-1)) ∧ Below W.heap.size W W' from fun W => by rw [hM,← hcy]; exact zdt Y Pt.pp lY zbb W)
 have H1:=veil (show ∀ W,Calls Tryz.prog 42 #[.agg #[vI vU (wd X 0),vI vU (wd X 1),vI vU (wd X 2),vI vU (wd X 3)],.agg #[vI vU (wd X 0),vI vU (wd X 1),vI vU (wd X 2),vI vU (wd X 3)]] W fun e W' => e = .returned (.agg #[vI vU (wd A 0),vI vU (wd A 1),vI vU (wd A 2),vI vU (wd A 3)]) ∧ Below W.heap.size W W' from fun W => zdq X X A hX lX hA W)
 have H2:=veil (show ∀ W,Calls Tryz.prog 42 #[.agg #[vI vU (wd A 0),vI vU (wd A 1),vI vU (wd A 2),vI vU (wd A 3)],.agg #[vI vU (wd X 0),vI vU (wd X 1),vI vU (wd X 2),vI vU (wd X 3)]] W fun e W' => e = .returned (.agg #[vI vU (wd B 0),vI vU (wd B 1),vI vU (wd B 2),vI vU (wd B 3)]) ∧ Below W.heap.size W W' from fun W => zdq A X B lA lX hBB W)
 have H3:=veil (show ∀ W,Calls Tryz.prog 42 #[.agg #[vI vU 3,vI vU 0,vI vU 0,vI vU 0],.agg #[vI vU (wd X 0),vI vU (wd X 1),vI vU (wd X 2),vI vU (wd X 3)]] W fun e W' => e = .returned (.agg #[vI vU (wd C 0),vI vU (wd C 1),vI vU (wd C 2),vI vU (wd C 3)]) ∧ Below W.heap.size W W' from fun W => by have h:=zdq 3 X C three_lt lX hC W; rw [l0,l1,l2,l3] at h; exact h)
 have H4:=veil (show ∀ W,Calls Tryz.prog 42 #[.agg #[vI vU (wd Y 0),vI vU (wd Y 1),vI vU (wd Y 2),vI vU (wd Y 3)],.agg #[vI vU (wd Y 0),vI vU (wd Y 1),vI vU (wd Y 2),vI vU (wd Y 3)]] W fun e W' => e = .returned (.agg #[vI vU (wd Q 0),vI vU (wd Q 1),vI vU (wd Q 2),vI vU (wd Q 3)]) ∧ Below W.heap.size W W' from fun W => zdq Y Y Q hY lY hQ W)
 have H5:=veil (show ∀ W,Calls Tryz.prog 44 #[.agg #[vI vU (wd B 0),vI vU (wd B 1),vI vU (wd B 2),vI vU (wd B 3)],.agg #[vI vU (wd C 0),vI vU (wd C 1),vI vU (wd C 2),vI vU (wd C 3)]] W fun e W' => e = .returned (.agg #[vI vU (wd D 0),vI vU (wd D 1),vI vU (wd D 2),vI vU (wd D 3)]) ∧ Below W.heap.size W W' from fun W => zcq B C D lB lC hD W)
 have H6:=veil (show ∀ W,Calls Tryz.prog 45 #[] W fun e W' => e = .returned (.agg #[vI vU (wd K 0),vI vU (wd K 1),vI vU (wd K 2),vI vU (wd K 3)]) ∧ Below W.heap.size W W' from fun W => by rw [hK]; exact rb_calls W)
 have H7:=veil (show ∀ W,Calls Tryz.prog 43 #[.agg #[vI vU (wd D 0),vI vU (wd D 1),vI vU (wd D 2),vI vU (wd D 3)],.agg #[vI vU (wd K 0),vI vU (wd K 1),vI vU (wd K 2),vI vU (wd K 3)],.agg #[vI vU (wd M 0),vI vU (wd M 1),vI vU (wd M 2),vI vU (wd M 3)]] W fun e W' => e = .returned (.agg #[vI vU (wd R 0),vI vU (wd R 1),vI vU (wd R 2),vI vU (wd R 3)]) ∧ Below W.heap.size W W' from fun W => by rw [hM,hK,hRR]; exact zep D Pt.bb Pt.pp lD bb_lt zbb W)
 have kq:=fun W => zjb lQ lR W
 obtain ⟨q,hq⟩ : ∃ q,q = decide (Q = R):=⟨_,rfl⟩
 rw [← hq] at kq ⊢
 obtain ⟨x0,x1,x2,x3⟩:=pt_x hR
 obtain ⟨y0,y1,y2,y3⟩:=pt_y hR
 have f0:=pt_f hR
 have lz:=hR.lt
 have HR:=veil hR
 clear hq lQ lR lD lC lB lA lX lY hcx hcy l0 l1 l2 l3 hM hK hfin hRR hD hC hBB hA hQ hX hY hmod hR
 go_enter Tryz.func21,Tryz.ntmps21
 go_upto_region 3 with (fail)
 generalize w.alloc (.cells #[vI vU (wd X 0),vI vU (wd X 1),vI vU (wd X 2),vI vU (wd X 3),vI vU (wd Y 0),vI vU (wd Y 1),vI vU (wd Y 2),vI vU (wd Y 3),.bool (false)] 29) = wz at *
 go_region_held3 (fun w' => (∀ b o,b < wz.heap.size → w'.cell? ⟨b,o,none⟩ = wz.cell? ⟨b,o,none⟩) ∧ Below wz.heap.size wz w')
  (first
   | (with_reducible assumption)
   | (with_reducible exact zcm _)
   | (with_reducible exact zct (by assumption) (by assumption))
   | (fail))
  (first
   | (go_at_call 41; refine (HP.out _).mono ?_; rintro e w1 ⟨rfl,hb1⟩)
   | (go_at_call 40; first | ((with_reducible refine (HCX.out _).mono ?_); rintro e w2 ⟨rfl,hb2⟩) | ((with_reducible refine (HCY.out _).mono ?_); rintro e w3 ⟨rfl,hb3⟩)))
 rename (_ ∧ Below wz.heap.size wz _) => hH
 have hH2:=hH.2
 clear hH hb1 hb2 x0 x1 x2 x3 y0 y1 y2 y3 f0
 have hR3:=zaa HR.out hH2 lz
 have hB3:=hB.trans (hH2.mono hB.size)
 clear hH2 hB
 obtain ⟨x0,x1,x2,x3⟩:=pt_x hR3
 have l3:=hR3.lt
 go_upto_region 5 with (fail)
 go_cut [3] from 29 to 36 (fun v3 wx => ∃ g,v3 = .pointer (some ⟨g,0,none⟩) ∧ w3.heap.size ≤ g ∧ wx.rowIs g 27 4 (fun j => .int .u64 (wd B j)) ∧ Below w3.heap.size w3 wx)
 case first =>
  go_region_held3 (fun w' => (∀ b o,b < w3.heap.size → w'.cell? ⟨b,o,none⟩ = w3.cell? ⟨b,o,none⟩) ∧ Below w3.heap.size w3 w')
   (first
    | (with_reducible assumption)
    | (with_reducible exact zcm _)
    | (with_reducible exact zem _)
    | (with_reducible exact zdw _ (by assumption))
    | ((with_reducible refine zfr (by assumption) ?_); first | exact Nat.le_refl _ | exact hbm.size | exact Nat.le_trans hbm.size hbp.size)
    | ((with_reducible refine zfs ?_ (by assumption)); first | exact Nat.le_refl _ | exact hbm.size | exact Nat.le_trans hbm.size hbp.size)
    | (with_reducible exact zct (by assumption) (by assumption))
    | (fail))
   (first
    | (go_at_call 42; first | ((with_reducible refine (H1.out _).mono ?_); rintro e wm ⟨rfl,hbm⟩; obtain ⟨hmc,hmf,hml⟩:=zbu hbm) | ((with_reducible refine (H2.out _).mono ?_); rintro e wp ⟨rfl,hbp⟩; obtain ⟨hpc,hpf,hpl⟩:=zbu hbp)))
  all_goals rename (_ ∧ Below w3.heap.size w3 _) => hH
  ·
   go_wp2
   go_meet
   exact ⟨_,rfl,Nat.le_trans hbm.size hbp.size,zae (n:=4) rfl rfl (arr4 fun j => .int .u64 (wd B j)),hH.2⟩
  ·
   go_wp2
   go_meet
   exact ⟨_,rfl,hbm.size,put4 (zaa (zae (n:=4) (f:=fun _ => .int .u64 0) rfl rfl (arr4 fun _ => .int .u64 0)) hbp (by simp)) (fun j => .int .u64 (wd B j)),hH.2⟩
  ·
   go_wp2
   go_meet
   exact ⟨_,rfl,Nat.le_refl _,put4 (zaa (zaa (zae (n:=4) (f:=fun _ => .int .u64 0) rfl rfl (arr4 fun _ => .int .u64 0)).drew hbm (by simp)) hbp (Nat.lt_of_lt_of_le (by simp) hbm.size)) (fun j => .int .u64 (wd B j)),hH.2⟩
 case rest =>
  obtain ⟨g,rfl,hg,hT5,hB5⟩:=hcut
  clear x0 x1 x2 x3
  have hR5:=zaa hR3 hB5 l3
  have hB6:=hB3.trans (hB5.mono hB3.size)
  clear hR3 hB3 hB5
  obtain ⟨x0,x1,x2,x3⟩:=pt_x hR5
  go_wp2_with fail
  refine (H3.out wc).mono ?_
  rintro e w6 ⟨rfl,hb6⟩
  have hT6:=zaa hT5 hb6 hT5.lt
  have hR6:=zaa hR5 hb6 hR5.lt
  have hB7:=hB6.trans (hb6.mono hB6.size)
  clear x0 x1 x2 x3 hT5 hR5 hB6 hb6
  go_upto_region 7 with (fail)
  have hU7 : (w6.alloc (.cells #[vI vU (wd C 0),vI vU (wd C 1),vI vU (wd C 2),vI vU (wd C 3)] 27)).rowIs w6.heap.size 27 4 (fun j => .int .u64 (wd C j)):=zae (n:=4) rfl rfl (arr4 fun j => .int .u64 (wd C j))
  have hT7:=hT6.alloc (.cells #[vI vU (wd C 0),vI vU (wd C 1),vI vU (wd C 2),vI vU (wd C 3)] 27)
  have hR7:=hR6.alloc (.cells #[vI vU (wd C 0),vI vU (wd C 1),vI vU (wd C 2),vI vU (wd C 3)] 27)
  have hB8:=hB7.alloc hB7.size (.cells #[vI vU (wd C 0),vI vU (wd C 1),vI vU (wd C 2),vI vU (wd C 3)] 27)
  generalize w6.alloc (.cells #[vI vU (wd C 0),vI vU (wd C 1),vI vU (wd C 2),vI vU (wd C 3)] 27) = w7 at *
  generalize w6.heap.size = g4 at *
  clear hT6 hR6 hB7
  obtain ⟨y0,y1,y2,y3⟩:=pt_y hR7
  obtain ⟨t0,t1,t2,t3⟩:=zac hT7
  obtain ⟨u0,u1,u2,u3⟩:=zac hU7
  have m1:=hR7.lt
  have m2:=hT7.lt
  have m3:=hU7.lt
  go_region_held3 (fun w' => (∀ b o,b < w7.heap.size → w'.cell? ⟨b,o,none⟩ = w7.cell? ⟨b,o,none⟩) ∧ Below w7.heap.size w7 w')
   (first
    | (with_reducible assumption)
    | (with_reducible exact zcm _)
    | (with_reducible exact zct (by assumption) (by assumption))
    | (fail))
   (first
    | (go_at_call 42; (with_reducible refine (H4.out _).mono ?_); rintro e v1 ⟨rfl,hv1⟩)
    | (go_at_call 44; (with_reducible refine (H5.out _).mono ?_); rintro e v2 ⟨rfl,hv2⟩)
    | (go_at_call 45; (with_reducible refine (H6.out _).mono ?_); rintro e v3 ⟨rfl,hv3⟩)
    | (go_at_call 41; (with_reducible refine (HP.out _).mono ?_); rintro e v4 ⟨rfl,hv4⟩)
    | (go_at_call 43; (with_reducible refine (H7.out _).mono ?_); rintro e v5 ⟨rfl,hv5⟩))
  rename (_ ∧ Below w7.heap.size w7 _) => hH
  clear y0 y1 y2 y3 t0 t1 t2 t3 u0 u1 u2 u3
  go_wp2
  go_ret
  exact ⟨rfl,hB8.trans (hH.2.mono hB8.size)⟩
theorem ron_calls (X Y : Nat) (f : Bool) (hX : X < top) (hY : Y < top) (w : World) :
  Calls Tryz.prog 21 #[.agg #[vI vU (wd X 0),vI vU (wd X 1),vI vU (wd X 2),vI vU (wd X 3),vI vU (wd Y 0),vI vU (wd Y 1),vI vU (wd Y 2),vI vU (wd Y 3),.bool (f)]] w fun e w' => e = .returned (.bool (onB X Y f)) ∧ Below w.heap.size w w':=by
 unfold onB
 cases f with
 | true => exact ron_far X Y hX hY w
 | false =>
  by_cases hx : X < Pt.pp
  ·
   by_cases hy : Y < Pt.pp
   ·
    simp only [Bool.false_eq_true,if_false,hx,hy,decide_true,Bool.true_and]
    exact ron_near X Y hx hy w
   ·
    simp only [Bool.false_eq_true,if_false,hx,hy,decide_true,decide_false,Bool.true_and,Bool.false_and]
    exact ron_high X Y hx hY hy w
  ·
   simp only [Bool.false_eq_true,if_false,hx,decide_false,Bool.false_and]
   exact ron_out X Y hX hx w
theorem word_core (Z g n c j : Nat) (hn : n ≤ 32) (hj : j + 4 ≤ n) (w : World) (hp : Pre w g 3 n (ptv Z)) :
  Calls Tryz.prog 116 #[.slice (some ⟨g,0,none⟩) n c,.int .i64 (j : Int)] w fun e w' => e = .returned (.int .u64 (pt Z j + 65536 * pt Z (j + 1) + 4294967296 * pt Z (j + 2) + 281474976710656 * pt Z (j + 3))) ∧ ∃ m,w' = w.drewN m:=by
 have c0 : w.cell? ⟨g,j,none⟩ = some (.int .i64 (pt Z j)):=hp.cell (by omega)
 have c1 : w.cell? ⟨g,j + 1,none⟩ = some (.int .i64 (pt Z (j + 1))):=hp.cell (by omega)
 have c2 : w.cell? ⟨g,j + 2,none⟩ = some (.int .i64 (pt Z (j + 2))):=hp.cell (by omega)
 have c3 : w.cell? ⟨g,j + 3,none⟩ = some (.int .i64 (pt Z (j + 3))):=hp.cell (by omega)
 have l0:=pt_lo Z j
 have l1:=pt_lo Z (j + 1)
 have l2:=pt_lo Z (j + 2)
 have l3:=pt_lo Z (j + 3)
 have u0:=pt_lt Z j
 have u1:=pt_lt Z (j + 1)
 have u2:=pt_lt Z (j + 2)
 have u3:=pt_lt Z (j + 3)
 clear hp
 go_enter Tryz.func116,Tryz.ntmps116
 go_wp2
 go_quiet (fail)
 go_wp2
 go_ret
 exact ⟨rfl,_,rfl⟩
theorem zgy (Z g n c q : Nat) (a : Int) (ha : a = ((4 * q : Nat) : Int)) (hn : n ≤ 32) (hj : 4 * q + 4 ≤ n) (w : World) (hp : Pre w g 3 n (ptv Z)) :
  Calls Tryz.prog 116 #[.slice (some ⟨g,0,none⟩) n c,.int .i64 a] w fun e w' => e = .returned (.int .u64 (wd Z q)) ∧ ∃ m,w' = w.drewN m:=by
 subst ha
 rw [wd_pt]
 exact word_core Z g n c (4 * q) hn hj w hp
theorem num_calls (Z g c : Nat) (w : World) (hp : Pre w g 3 16 (ptv Z)) :
  Calls Tryz.prog 82 #[.slice (some ⟨g,0,none⟩) 16 c] w fun e w' => e = .returned (.agg #[vI vU (wd Z 0),vI vU (wd Z 1),vI vU (wd Z 2),vI vU (wd Z 3)]) ∧ Below w.heap.size w w':=by
 have hR : (w.alloc (.cells #[vI vU 0,vI vU 0,vI vU 0,vI vU 0] 27)).rowIs w.heap.size 27 4 (fun _ => .int .u64 0):=zae (n:=4) rfl rfl (arr4 fun _ => .int .u64 0)
 have HR:=veil hR
 have HP:=veil (hp.alloc (.cells #[vI vU 0,vI vU 0,vI vU 0,vI vU 0] 27))
 obtain ⟨d0,d1,d2,d3⟩:=zac hR
 obtain ⟨f0,f1,f2,f3⟩:=zaf hR
 clear hR hp
 go_enter Tryz.func82,Tryz.ntmps82
 go_wp2_with fail
 refine (zgy Z g 16 c 0 0 rfl (by omega) (by omega) _ HP.out).mono ?_
 rintro e w1 ⟨rfl,m1,rfl⟩
 go_wp2_with fail
 refine (zgy Z g 16 c 1 4 rfl (by omega) (by omega) _ (HP.out.drewN _)).mono ?_
 rintro e w1 ⟨rfl,m2,rfl⟩
 go_wp2_with fail
 refine (zgy Z g 16 c 2 8 rfl (by omega) (by omega) _ (HP.out.drewN _)).mono ?_
 rintro e w1 ⟨rfl,m3,rfl⟩
 go_wp2_with fail
 refine (zgy Z g 16 c 3 12 rfl (by omega) (by omega) _ (HP.out.drewN _)).mono ?_
 rintro e w1 ⟨rfl,m4,rfl⟩
 go_wp2
 refine bodyPost_ret (results_cell_row rfl _ _ w.heap.size 27 #[vI vU (wd Z 0),vI vU (wd Z 1),vI vU (wd Z 2),vI vU (wd Z 3)] (0,0) _ rfl (blk4 (put4 (zbx HR.out _) fun j => .int .u64 (wd Z j))) Tryz.underlying27 rfl (by kernel_rfl)) rfl ⟨rfl,zai (zbf ((Below.refl _ _).alloc (Nat.le_refl _) _) _) (Nat.le_refl _) _ _ _ _⟩
theorem pt_put (L c k j : Nat) (hL : L < 256 ^ k) (hc : c < 256) : pt (L + c * 256 ^ k) j = if j = k / 2 then pt L j + (c * 256 ^ (k % 2) : Nat) else pt L j:=by
 have h:=dg_put 2 (k / 2) (k % 2) L c (Nat.mod_lt _ (by omega)) (by rw [Nat.div_add_mod]; exact hL) hc j
 rw [Nat.div_add_mod,← w16_bytes] at h
 unfold pt
 rw [h]
 split
 ·
  rw [Int.natCast_add]
 ·
  rfl
theorem rof_even (L c k : Nat) (hL : L < 256 ^ k) (hc : c < 256) (hk : k % 2 = 0) : pt L (k / 2) + (c : Int) = pt (L + c * 256 ^ k) (k / 2):=by
 rw [pt_put L c k _ hL hc,if_pos rfl,hk]; simp
theorem rof_odd (L c k : Nat) (hL : L < 256 ^ k) (hc : c < 256) (hk : k % 2 = 1) : pt L (k / 2) + 256 * (c : Int) = pt (L + c * 256 ^ k) (k / 2):=by
 rw [pt_put L c k _ hL hc,if_pos rfl,hk]; omega
theorem rof_step (z : Nat → Nat) (k : Nat) (hz : ∀ j,z j < 256) (i : Nat) :
  (if i = k / 2 then Value.int .i64 (pt (lev z k + z k * 256 ^ k) (k / 2)) else Value.int .i64 (pt (lev z k) i)) = Value.int .i64 (pt (lev z (k + 1)) i):=by
 show _ = Value.int .i64 (pt (lev z k + z k * 256 ^ k) i)
 by_cases h : i = k / 2
 ·
  rw [if_pos h,h]
 ·
  rw [if_neg h,pt_put _ _ _ _ (zjt hz k) (hz k),if_neg h]
theorem pt_zero (i : Nat) : pt 0 i = 0:=by unfold pt dg; simp
theorem rof_some (b o n c : Nat) (y : Nat → Nat) (hy : ∀ j,y j < 256) (hn : n ≤ 32) (w : World) (hb : b < w.heap.size) (hcell : ∀ j,j < n → w.cell? ⟨b,o + j,none⟩ = some (.int .u8 (y j))) :
  Calls Tryz.prog 59 #[.slice (some ⟨b,o,none⟩) n c] w fun e w' => e = .returned (.agg #[vI vU (wd (lev (fun k => y (n - 1 - k)) n) 0),vI vU (wd (lev (fun k => y (n - 1 - k)) n) 1),vI vU (wd (lev (fun k => y (n - 1 - k)) n) 2),vI vU (wd (lev (fun k => y (n - 1 - k)) n) 3)]) ∧ Below w.heap.size w w':=by
 obtain ⟨i0,hi,hz0,hz1,hz2⟩:=info_parts infoInt
 have hmk : ∀ W : World,(Instr.makeSlice 116 (.int .i64 16) (.int .i64 16)).run Tryz.prog W = .ok (.slice (some ⟨W.heap.size,0,none⟩) 16 16) (W.alloc (.cells (madeCells #[.int .i64 0] 16) 3)) :=
  fun W => run_make_row 116 3 i0 (.int .i64 0) Tryz.underlying116 hi hz0 hz1 rfl .i64 .i64 16 (by rw [hz2]; omega) (by omega) W
 have HY:=veil hy
 have HC:=veil hcell
 clear hy hcell
 have hn' : (n : Int) ≤ 32:=by omega
 go_enter Tryz.func59,Tryz.ntmps59
 go_wp2
 go_loopw [4] (fun i wr => ∃ k : Nat,k ≤ n ∧ i = .int .i64 k ∧ wr.rowIs w.heap.size 27 4 (fun _ => .int .u64 0) ∧ wr.rowIs (w.heap.size + 1) 3 16 (fun j => .int .i64 (pt (lev (fun k => y (n - 1 - k)) k) j)) ∧ Below w.heap.size w wr)
  (fun i _ => n - (intOf i).toNat)
 case atStart => exact ⟨0,by omega,rfl,(zae (n:=4) rfl rfl (arr4 fun _ => .int .u64 0)).alloc _,(row_filled (z:=.int .i64 0) (by simp)).congr (fun i _ => by rw [lev,pt_zero]),((Below.refl _ _).alloc (by simp) _).alloc (by simp) _⟩
 case round =>
  obtain ⟨k,hk,rfl,hR,hS,hbel⟩:=hrel
  by_cases hlt : k < n
  ·
   have c1:=hS.cell (i:=k / 2) (by omega)
   have f1:=hS.frozen (k / 2)
   obtain ⟨j,hj⟩ : ∃ j,j = n - 1 - k:=⟨_,rfl⟩
   have hji : (n : Int) - 1 - (k : Int) = (j : Int):=by omega
   have hjn : (j : Int) < (n : Int):=by omega
   have hj0 : (0 : Int) ≤ (j : Int):=by omega
   have hkn : (k : Int) < (n : Int):=by omega
   have c2:=(hbel.cell (p:=⟨b,o + j,none⟩) hb).trans (HC.out j (by omega))
   have l1:=pt_lo (lev (fun k => y (n - 1 - k)) k) (k / 2)
   have u1 : pt (lev (fun k => y (n - 1 - k)) k) (k / 2) ≤ 65535:=by have:=pt_lt (lev (fun k => y (n - 1 - k)) k) (k / 2); omega
   have u2 : (y j : Int) ≤ 255:=by have:=HY.out j; omega
   have u3 : (0 : Int) ≤ (y j : Int):=by omega
   have HS:=veil (rof_step (fun k => y (n - 1 - k)) k (fun j => HY.out _))
   have HJ:=veil hj
   clear hj
   rcases Nat.mod_two_eq_zero_or_one k with h2 | h2
   ·
    have hm : ((k : Int) % 2 == 0) = true:=by rw [beq_iff_eq]; omega
    have HM:=veil h2
    clear h2
    go_wp2
    go_region
    all_goals
     go_wp2
     go_roundw
     case rel =>
      rw [show y j = y (n - 1 - k) by rw [HJ.out],rof_even _ _ _ (zjt (fun j => HY.out _) k) (HY.out _) HM.out]
      exact ⟨k + 1,by omega,by go_num,(zau hR (by omega) _).drew,((hS.set (k / 2) _).congr fun i _ => HS.out i).drew,(zaq hbel (by omega) _).drew⟩
     case measure => simp [intOf]; omega
   ·
    have hm : ((k : Int) % 2 == 0) = false:=by rw [beq_eq_false_iff_ne]; omega
    have HM:=veil h2
    clear h2
    go_wp2
    go_region
    all_goals
     go_wp2
     go_roundw
     case rel =>
      rw [show y j = y (n - 1 - k) by rw [HJ.out],rof_odd _ _ _ (zjt (fun j => HY.out _) k) (HY.out _) HM.out]
      exact ⟨k + 1,by omega,by go_num,(zau hR (by omega) _).drew,((hS.set (k / 2) _).congr fun i _ => HS.out i).drew,(zaq hbel (by omega) _).drew⟩
     case measure => simp [intOf]; omega
  ·
   obtain rfl : k = n:=by omega
   go_wp2_with fail
   refine (num_calls (lev (fun j => y (k - 1 - j)) k) (w.heap.size + 1) 16 _ (Pre.of_row hS)).mono ?_
   rintro e w3 ⟨rfl,hb3⟩
   have hR3:=zaa hR hb3 hR.lt
   have hB3:=hbel.trans (hb3.mono hbel.size)
   obtain ⟨d0,d1,d2,d3⟩:=zac hR3
   obtain ⟨f0,f1,f2,f3⟩:=zaf hR3
   clear hR hS hbel hb3
   go_wp2
   refine bodyPost_ret (results_cell_row rfl _ _ w.heap.size 27 #[vI vU (wd (lev (fun j => y (k - 1 - j)) k) 0),vI vU (wd (lev (fun j => y (k - 1 - j)) k) 1),vI vU (wd (lev (fun j => y (k - 1 - j)) k) 2),vI vU (wd (lev (fun j => y (k - 1 - j)) k) 3)] (0,0) _ rfl (blk4 (put4 hR3 fun j => .int .u64 (wd (lev (fun j => y (k - 1 - j)) k) j))) Tryz.underlying27 rfl (by kernel_rfl)) rfl ⟨rfl,zai hB3 (by omega) _ _ _ _⟩
def be32 (y : Nat → Nat) (k : Nat) : Nat:=lev (fun i => y (k + (31 - i))) 32
/-! ### numbers -/
theorem lev_digs9 (X : Nat) (z : Nat → Nat) : ∀ i,(∀ k,k < i → z k = X / 256 ^ k % 256) → lev z i = X % 256 ^ i
 | 0,_ => by simp [lev,Nat.mod_one]
 | i + 1,h => by
  show lev z i + z i * 256 ^ i = _
  rw [zcg,lev_digs9 X z i (fun k hk => h k (by omega)),h i (by omega),Nat.mul_comm]
  rfl
theorem lev_valB {bs : List Nat} (h : Byt bs) {n : Nat} (hl : bs.length = n) {z : Nat → Nat} (hz : ∀ k,k < n → z k = bs.getD (n - 1 - k) 0) : lev z n = valB bs:=by
 have e:=beB_valB h hl
 have hx : valB bs < 256 ^ n:=hl ▸ zhq h
 rw [lev_digs9 (valB bs) z n fun k hk => ?_,Nat.mod_eq_of_lt hx]
 have h1:=beB_get n (valB bs) (i:=n - 1 - k) (by omega)
 rw [e] at h1
 rw [hz k hk,h1,show n - 1 - (n - 1 - k) = k by omega]
end Go.Proofs.YthlbemnbmbmjhaaGreatDoor
namespace Go.Proofs.YthlbemnbmbmjhaaGreatDoor
structure Ky where
 i : Int
 x : Nat
 y : Nat
 f : Bool
 a : Int
 b : Int
def ky0 : Ky:=⟨0,0,0,false,0,0⟩
def okK (l : List Ky) (j : Nat) : Prop :=
 1 ≤ (l.getD j ky0).i ∧ (l.getD j ky0).i ≤ 2147483647 ∧ onB (l.getD j ky0).x (l.getD j ky0).y (l.getD j ky0).f = true ∧ (l.getD j ky0).f = false ∧ 0 ≤ (l.getD j ky0).a ∧ (l.getD j ky0).a ≤ (l.getD j ky0).b ∧ (l.getD j ky0).b ≤ 1073741824 ∧ (0 < j → (l.getD (j - 1) ky0).i < (l.getD j ky0).i)
instance (l : List Ky) (j : Nat) : Decidable (okK l j):=by unfold okK; exact inferInstance
def mayK (l : List Ky) : Bool:=decide (l.length ≤ 32 ∧ ∀ j,j < l.length → okK l j)
theorem mayK_false {l : List Ky} {j : Nat} (hj : j < l.length) (h : ¬ okK l j) : mayK l = false:=decide_eq_false fun hh => h (hh.2 j hj)
theorem mayK_len {l : List Ky} (h : ∀ j,j < l.length → okK l j) : mayK l = decide (l.length ≤ 32):=by
 unfold mayK
 by_cases hc : l.length ≤ 32
 ·
  rw [decide_eq_true hc,decide_eq_true ⟨hc,h⟩]
 ·
  rw [decide_eq_false hc,decide_eq_false fun hh => hc hh.1]
theorem mayK_ok {l : List Ky} (h : mayK l = true) {j : Nat} (hj : j < l.length) : okK l j:=(of_decide_eq_true h).2 j hj
theorem mayK_32 {l : List Ky} (h : mayK l = true) : l.length ≤ 32:=(of_decide_eq_true h).1
def cntK (k : Ky) (id at_ : Int) : Bool:=decide (k.i = id) && decide (k.a ≤ at_) && decide (at_ < k.b)
def findK (l : List Ky) (id at_ : Int) : Option Ky:=l.find? fun k => cntK k id at_
theorem zhn {l : List Ky} {id at_ : Int} (h : ∀ j,j < l.length → cntK (l.getD j ky0) id at_ = false) : findK l id at_ = none:=by
 unfold findK
 rw [List.find?_eq_none]
 intro k hk
 obtain ⟨j,hj,rfl⟩:=List.mem_iff_getElem.1 hk
 have:=h j hj
 rw [List.getD_eq_getElem?_getD,List.getElem?_eq_getElem hj] at this
 simpa using this
theorem findK_at {l : List Ky} {id at_ : Int} {j : Nat} (hj : j < l.length) (h : ∀ i,i < j → cntK (l.getD i ky0) id at_ = false) (hc : cntK (l.getD j ky0) id at_ = true) : findK l id at_ = some (l.getD j ky0):=by
 have e : l.getD j ky0 = l[j]:=by rw [List.getD_eq_getElem?_getD,List.getElem?_eq_getElem hj]; rfl
 rw [e] at hc ⊢
 unfold findK
 rw [List.find?_eq_some_iff_getElem]
 refine ⟨hc,j,hj,rfl,fun i hi => ?_⟩
 have:=h i hi
 rw [List.getD_eq_getElem?_getD,List.getElem?_eq_getElem (by omega)] at this
 simpa using this
/-! ### bytes -/
theorem pp_256 : Pt.pp < 256 ^ 32:=by decide +kernel
theorem onB_lt {x y : Nat} (h : onB x y false = true) : x < 256 ^ 32 ∧ y < 256 ^ 32:=by
 unfold onB at h
 rw [if_neg (by decide)] at h
 simp only [Bool.and_eq_true,decide_eq_true_eq] at h
 exact ⟨Nat.lt_trans h.1 pp_256,Nat.lt_trans h.2.1 pp_256⟩
theorem mayK_each {l : List Ky} (h : mayK l = true) : ∀ k ∈ l,1 ≤ k.i ∧ k.i ≤ 2147483647 ∧ onB k.x k.y false = true ∧ k.f = false ∧ 0 ≤ k.a ∧ k.a ≤ k.b ∧ k.b ≤ 1073741824:=by
 intro k hk
 obtain ⟨j,hj,rfl⟩:=List.mem_iff_getElem.1 hk
 obtain ⟨h1,h2,h3,h4,h5,h6,h7,_⟩:=mayK_ok h hj
 have e : l.getD j ky0 = l[j]:=by rw [List.getD_eq_getElem?_getD,List.getElem?_eq_getElem hj]; rfl
 rw [e] at h1 h2 h3 h4 h5 h6 h7
 rw [h4] at h3
 exact ⟨h1,h2,h3,h4,h5,h6,h7⟩
end Go.Proofs.YthlbemnbmbmjhaaGreatDoor
namespace Go.Proofs.YthlbemnbmbmjhaaGreatDoor
open Go.RowKit
open Go.Value renaming int → vI
open Go.IntKind renaming u64 → vU
open Go.Act renaming put → aP
open List renaming setIfInBounds_toArray → lA, set_cons_zero → lZ, set_cons_succ → lS
section
variable {α : Type} {sz : Nat} {cs : α → List Value} {w w' : World} {v : Value} {l : List α} {P : Program}
def Ls (sz : Nat) (cs : α → List Value) (w : World) (v : Value) (l : List α) : Prop :=
 ∃ A c,v = .slice A l.length c ∧ l.length ≤ c ∧ (l.length = 0 ∨ ∃ b o,A = some ⟨b,o,none⟩ ∧ b < w.heap.size ∧ ∀ i x,l[i]? = some x → w.rangeAt b (o + i * sz) (cs x))
theorem zdf (h : Ext w w') {b o : Nat} {L : List Value} (hb : b < w.heap.size) (hr : w.rangeAt b o L) : w'.rangeAt b o L:=fun j u hu => (h.cell hb).trans (hr j u hu)
theorem Ls.ext (h : Ls sz cs w v l) (k : Ext w w') : Ls sz cs w' v l:=by
 obtain ⟨A,c,e,hc,hx⟩:=h
 exact ⟨A,c,e,hc,hx.imp id fun ⟨b,o,ha,hb,hr⟩ => ⟨b,o,ha,Nat.lt_of_lt_of_le hb (Below.size k),fun i x hi => zdf k hb (hr i x hi)⟩⟩
theorem Ls.nil (w : World) (A : Option Addr) (c : Nat) : Ls sz cs w (.slice A 0 c) ([] : List α):=⟨A,c,rfl,Nat.zero_le _,.inl rfl⟩
theorem Ls.at (h : Ls sz cs w v l) {i : Nat} (hi : i < l.length) : ∃ b o c,v = .slice (some ⟨b,o,none⟩) l.length c ∧ l.length ≤ c ∧ b < w.heap.size ∧ ∀ i x,l[i]? = some x → w.rangeAt b (o + i * sz) (cs x):=by
 obtain ⟨A,c,e,hc,hx⟩:=h
 rcases hx with h0 | ⟨b,o,rfl,hb,hr⟩
 ·
  omega
 ·
  exact ⟨b,o,c,e,hc,hb,hr⟩
variable {base ty : Nat}
theorem ls_one {g c : Nat} {x : α} {fr : Nat × Nat} (hg : w.heap[g]? = some (.cells (cs x).toArray ty fr)) (hc : 1 ≤ c:=by decide) : Ls sz cs w (.slice (some ⟨g,0,none⟩) 1 c) [x] :=
 ⟨_,c,rfl,hc,.inr ⟨g,0,rfl,(Array.getElem?_eq_some_iff.1 hg).1,fun i y hi j u hu => by
  match i,hi with
  | 0,hi =>
   obtain rfl : x = y:=by simpa using hi
   simp only [Nat.zero_mul,Nat.zero_add]
   rw [cell_of_row w g j _ _ _ hg]
   simpa using hu⟩⟩
theorem ls_of {H : Type} {enc : TypeId × Value → H} {t e fuel base : Nat} {sp : Nat → Bool} {hd : Bool} {d : DataW H} {p : List MemPlace} (ht : P.underlying t = some (.slice e)) (hsz : P.cellsOf e = sz) (h0 : 0 < sz)
  (he : ∀ n cs' y,DataW.trod enc P w base sp hd n e cs' = some y → ∃ x,cs' = cs x) (hf : DataW.trod enc P w base sp hd fuel t [v] = some (d,p)) : ∃ l : List α,Ls sz cs w v l:=by
 rcases Go.Deep.open_slice ht hf with ⟨h,_⟩ | ⟨a,len,cap,m,n,D,Pl,h,_,hlc,_,hm,_,hx⟩
 ·
  simp only [List.cons.injEq,and_true] at h
  rw [h]
  exact ⟨[],Ls.nil _ _ _⟩
 ·
  simp only [List.cons.injEq,and_true] at h
  have hlm : len ≤ m:=by rw [hm]; split <;> omega
  have each : ∀ i,i < len → ∃ x : α,(cs x).length = sz ∧ ∀ j u,(cs x)[j]? = some u → w.cell? ((a.add (i * sz)).add j) = some u:=by
   intro i hi
   obtain ⟨cs',h1,h2⟩:=hx i (by omega)
   rw [hsz] at h1
   obtain ⟨_,hlen,hcell⟩:=World.cells?_some h1
   obtain ⟨x,rfl⟩:=he _ _ _ h2
   refine ⟨x,hlen,fun j u hu => ?_⟩
   have hj:=(List.getElem?_eq_some_iff.1 hu).1
   rw [hcell j (by omega),hu]
  by_cases hl0 : len = 0
  ·
   rw [h,hl0]
   exact ⟨[],Ls.nil _ _ _⟩
  ·
   obtain ⟨x0,_⟩:=each 0 (by omega)
   haveI : Inhabited α:=⟨x0⟩
   obtain ⟨q,hq⟩:=Go.Deep.choose_lt each
   refine ⟨(List.range len).map q,some a,cap,by rw [h]; simp,by simpa using hlc,.inr ?_⟩
   obtain ⟨b,off,spot⟩:=a
   have h00 : ∃ u,(cs (q 0))[0]? = some u:=⟨_,List.getElem?_eq_getElem (by rw [(hq 0 (by omega)).1]; exact h0)⟩
   obtain ⟨u0,hu0⟩:=h00
   have hc0:=(hq 0 (by omega)).2 0 u0 hu0
   have hspot : spot = none:=by simpa [Addr.add] using World.cell?_spot hc0
   subst hspot
   have hblk : b < w.heap.size:=by
    have:=World.block_lt_of_cell? w _ hc0
    simpa [Addr.add] using this
   refine ⟨b,off,rfl,hblk,fun i x hi j u hu => ?_⟩
   have hil : i < len:=by
    have:=(List.getElem?_eq_some_iff.1 hi).1
    simpa using this
   obtain rfl : q i = x:=by simpa [hil] using hi
   have:=(hq i hil).2 j u hu
   rw [Addr.add_mid,Addr.add_mid] at this
   exact this
end
theorem rng_fd {w : World} {b o : Nat} {x y : Value} (h0 : w.cell? ⟨b,o,none⟩ = some x) (h1 : w.cell? ⟨b,o + 1,none⟩ = some y) : w.rangeAt b o [x,y]:=fun j v hv => by
 match j,hv with
 | 0,hv => rw [Nat.add_zero,h0]; simpa using hv
 | 1,hv => rw [h1]; simpa using hv
theorem infoF2 : (Tryz.prog.info? 64).map (·.size) = some 2:=by kernel_rfl
theorem hzF (W : World) : (Instr.alloc 64 true (.tuple #[])).run Tryz.prog W = .ok (ptrTo W.heap.size) (W.alloc (.cells #[.int .i64 0,.slice none 0 0] 64)):=by simp [Instr.alloc,go_sem]
theorem zim {w : World} {g : Nat} {x y : Value} (h : w.heap[g]? = some (.cells #[x,y] 64 (0,0))) : w.cell? ⟨g,0,none⟩ = some x ∧ w.cell? ⟨g,1,none⟩ = some y:=⟨by rw [cell_of_row w g 0 _ _ _ h]; rfl,by rw [cell_of_row w g 1 _ _ _ h]; rfl⟩
theorem one_fd {T : Int} {A : Option Addr} {L c : Nat} : (#[.int .i64 T,.slice A L c] : Array Value).all (·.oneCell') = true:=by simp [Value.oneCell']
theorem encF_take_len (fs : List Fd) {i : Nat} (hi : i < fs.length) : (encF (fs.take (i + 1))).length = (encF (fs.take i)).length + (3 + (bsF fs i).length):=by
 rw [encF_take fs hi,List.length_append,zij]
theorem sizeOf_calls (v : Value) (fs : List Fd) (w : World) (hF : Fl w v fs) (hM : mayFs fs = true) :
  Calls Tryz.prog 52 #[v] w fun e w' => e = .returned (.int .i64 ((encF fs).length : Nat)) ∧ Ext w w':=by
 obtain ⟨hB,AL,c,rfl,hc,hx⟩:=hF
 obtain ⟨n,hn⟩ : ∃ n,n = fs.length:=⟨_,rfl⟩
 rw [← hn] at hx hc ⊢
 have HR:=veil (And.intro hn (And.intro hM hB))
 have HX:=veil hx
 have hnL : n ≤ 64:=by rw [hn]; exact mayFs_64 hM
 clear hx hB hn hM
 go_enter Tryz.func52,Tryz.ntmps52
 go_wp2
 go_loopw [3,8] (fun s v wr => ∃ i : Nat,i ≤ n ∧ s = .int .i64 ((encF (fs.take i)).length : Nat) ∧ v = .int .i64 (i : Int) ∧ Ext w wr)
  (fun _ v _ => n - (intOf v).toNat)
 case atStart => exact ⟨0,by omega,rfl,rfl,Ext.refl _⟩
 case round =>
  obtain ⟨i,hi,rfl,rfl,hE⟩:=hrel
  by_cases hlt : i < n
  ·
   have hd1 : decide ((i : Int) < (n : Int)) = true:=by simp; omega
   have hii : (i : Int) < (n : Int):=by omega
   have hok:=mayFs_ok HR.out.2.1 (by have:=HR.out.1; omega : i < fs.length)
   have hst:=encF_take_len fs (by have:=HR.out.1; omega : i < fs.length)
   have hle:=zhj HR.out.2.1 i
   obtain ⟨b,o,hAL,hb,hcl⟩:=HX.out.resolve_left (by omega)
   obtain ⟨h1,A,c',h2,h3,h4⟩:=hcl i hlt
   have c0:=(hE.cell hb).trans h1
   have c1:=(hE.cell hb).trans h2
   obtain ⟨S,hS⟩ : ∃ S,S = (encF (fs.take i)).length:=⟨_,rfl⟩
   rw [← hS] at hst hle ⊢
   have hs : (S : Int) ≤ 4194432:=by omega
   have hL1:=hok.2.2.1
   have HS:=veil hst
   clear hcl h1 h2 hok hst hle h3 h4 hS
   generalize tgF fs i = T at *
   obtain ⟨L,hL⟩ : ∃ L,L = (bsF fs i).length:=⟨_,rfl⟩
   rw [← hL] at c1 hL1
   have HL:=veil hL
   clear hL
   have HRG:=veil (rng_fd c0 c1)
   clear c0 c1
   have hL2 : (L : Int) ≤ 65535:=by omega
   subst hAL
   go_upto_region 5 with (first
    | ((with_reducible refine zas 11 ?_); refine wpList_load_mid rfl 64 _ rfl b _ rfl _ _ HRG.out Tryz.underlying64 rfl infoF2 ?_)
    | ((with_reducible refine zas 5 ?_); refine zdn _ _ rfl rfl rfl rfl rfl rfl hzF (fun _ => rfl) (fun _ => rfl) infoF2 rfl one_fd ?_; intro g W hg hW hEW))
   have hEE:=hE.trans hEW
   obtain ⟨d0,d1⟩:=zim hW
   clear hW hEW hE
   go_wp2
   go_roundw
   case rel => exact ⟨i + 1,by omega,by rw [HS.out,← HL.out]; simp,by go_num,hEE⟩
   case measure => simp [intOf]; omega
  ·
   obtain rfl : i = n:=by omega
   have e : encF (fs.take i) = encF fs:=by rw [HR.out.1,List.take_length]
   rw [e]
   go_wp2
   go_ret
   exact ⟨rfl,hE⟩
def szB (bs : List Nat) : Nat:=if bs.length < 3 then 3 else 3 + (256 * bs.getD 1 0 + bs.getD 2 0)
theorem sizeFirst_calls (A : Option Addr) (m c : Nat) (bs : List Nat) (hm : m = bs.length) (w : World) (hS : Bs w A bs) :
  Calls Tryz.prog 54 #[.slice A m c] w fun e w' => e = .returned (.int .i64 (szB bs : Nat)) ∧ Ext w w':=by
 have HS:=veil (And.intro hm hS)
 by_cases h3 : m < 3
 ·
  have hd : decide ((m : Int) < 3) = true:=by simp; omega
  have hs : szB bs = 3:=if_pos (by omega)
  have HZ:=veil hs
  rw [HZ.out]
  clear hm hS hs
  go_enter Tryz.func54,Tryz.ntmps54
  go_wp2
  go_ret
  exact ⟨rfl,Ext.refl _⟩
 ·
  have hd : decide ((m : Int) < 3) = false:=by simp; omega
  obtain ⟨b,o,hA,hbl,c1⟩:=hS.cell (j:=1) (by omega)
  obtain ⟨b',o',hA',_,c2⟩:=hS.cell (j:=2) (by omega)
  obtain ⟨e1,e2⟩ : b' = b ∧ o' = o:=by rw [hA] at hA'; injection hA' with h; injection h with h1 h2; exact ⟨h1.symm,h2.symm⟩
  subst e1 e2
  have l1:=hS.1.getD 1
  have l2:=hS.1.getD 2
  obtain ⟨X,hX⟩ : ∃ X,X = bs.getD 1 0:=⟨_,rfl⟩
  obtain ⟨Y,hY⟩ : ∃ Y,Y = bs.getD 2 0:=⟨_,rfl⟩
  rw [← hX] at c1 l1
  rw [← hY] at c2 l2
  have hs : szB bs = 3 + (256 * X + Y):=by unfold szB; rw [if_neg (by omega),hX,hY]
  have HZ:=veil hs
  rw [HZ.out]
  have k1 : (X : Int) ≤ 255:=by omega
  have k2 : (Y : Int) ≤ 255:=by omega
  have i1 : (1 : Int) < (m : Int):=by omega
  have i2 : (2 : Int) < (m : Int):=by omega
  clear hm hS hs hX hY l1 l2 hA' h3
  subst hA
  go_enter Tryz.func54,Tryz.ntmps54
  go_wp2
  go_quiet (fail)
  go_wp2
  go_ret
  refine ⟨?_,Ext.drewK _ _⟩
  show Ending.returned (.int .i64 (3 + (X : Int) * 256 + (Y : Int))) = _
  rw [show 3 + (X : Int) * 256 + (Y : Int) = ((3 + (256 * X + Y) : Nat) : Int) by omega]
theorem zgb (v : Value) (fs : List Fd) (w : World) (hF : Fl w v fs) (hL : fs.length ≤ 1000000000) :
  Calls Tryz.prog 51 #[v] w fun e w' => e = .returned (.bool (mayFs fs)) ∧ Ext w w':=by
 obtain ⟨hB,AL,c,rfl,hc,hx⟩:=hF
 obtain ⟨R,hR⟩ : ∃ R,R = mayFs fs:=⟨_,rfl⟩
 rw [← hR]
 obtain ⟨n,hn⟩ : ∃ n,n = fs.length:=⟨_,rfl⟩
 rw [← hn] at hx hc ⊢
 have HR:=veil (And.intro hR (And.intro hn hL))
 have HX:=veil hx
 have hnL : n ≤ 1000000000:=by omega
 clear hR hx hB hn hL
 by_cases h64 : (64 : Int) < (n : Int)
 ·
  have hd : decide ((64 : Int) < (n : Int)) = true:=decide_eq_true h64
  have e : R = false:=by
   rw [HR.out.1]
   exact decide_eq_false fun hh => by have:=hh.1; have:=HR.out.2.1; omega
  subst e
  go_enter Tryz.func51,Tryz.ntmps51
  go_wp2
  go_ret
  exact ⟨rfl,Ext.refl _⟩
 ·
  have hd : decide ((64 : Int) < (n : Int)) = false:=decide_eq_false h64
  have hn64 : n ≤ 64:=by omega
  clear hnL h64
  go_enter Tryz.func51,Tryz.ntmps51
  go_wp2
  go_loopw [3,11] (fun s v wr => ∃ (i : Nat) (P : Int),i ≤ n ∧ s = .int .i64 P ∧ v = .int .i64 (i : Int) ∧ (∀ j,j < i → okF fs j) ∧ 0 ≤ P ∧ P ≤ 255 ∧ (i = 0 ∧ P = 0 ∨ 0 < i ∧ P = tgF fs (i - 1)) ∧ Ext w wr)
   (fun _ v _ => n - (intOf v).toNat)
  case atStart => exact ⟨0,0,by omega,rfl,rfl,fun j hj => by omega,by omega,by omega,.inl ⟨rfl,rfl⟩,Ext.refl _⟩
  case round =>
   obtain ⟨i,P,hi,rfl,rfl,hall,hP0,hP1,hP,hE⟩:=hrel
   by_cases hlt : i < n
   ·
    have hd1 : decide ((i : Int) < (n : Int)) = true:=by simp; omega
    have hii : (i : Int) < (n : Int):=by omega
    obtain ⟨b,o,hAL,hb,hcl⟩:=HX.out.resolve_left (by omega)
    obtain ⟨h1,A,c',h2,_,_⟩:=hcl i hlt
    have c0:=(hE.cell hb).trans h1
    have c1:=(hE.cell hb).trans h2
    obtain ⟨T,hT⟩ : ∃ T,T = tgF fs i:=⟨_,rfl⟩
    obtain ⟨L,hL⟩ : ∃ L,L = (bsF fs i).length:=⟨_,rfl⟩
    rw [← hT] at c0
    rw [← hL] at c1
    have HT:=veil (And.intro hT (And.intro hL hP))
    have HALL:=veil hall
    have hfalse : ∀ h : ¬ okF fs i,R = false:=fun h => HR.out.1.trans (mayFs_false (by have:=HR.out.2.1; omega) h)
    have HF:=veil hfalse
    have HRG:=veil (rng_fd c0 c1)
    clear h1 h2 hT hL hall hfalse hP c0 c1 hcl
    subst hAL
    go_upto_region 7 with (first
     | ((with_reducible refine zas 14 ?_); refine wpList_load_mid rfl 64 _ rfl b _ rfl _ _ HRG.out Tryz.underlying64 rfl infoF2 ?_)
     | ((with_reducible refine zas 5 ?_); refine zdn _ _ rfl rfl rfl rfl rfl rfl hzF (fun _ => rfl) (fun _ => rfl) infoF2 rfl one_fd ?_; intro g W hg hW hEW))
    have hEE:=hE.trans hEW
    obtain ⟨d0,d1⟩:=zim hW
    clear hW hEW hE
    by_cases g1 : T ≤ P
    ·
     have e : R = false:=HF.out fun h => by
      have h4:=h.2.2.2
      have h1:=h.1
      rw [← HT.out.1] at h1 h4
      rcases HT.out.2.2 with ⟨_,h0⟩ | ⟨h0,h5⟩
      ·
       omega
      ·
       have:=h4 h0; omega
     subst e
     have hd2 : decide (T ≤ P) = true:=decide_eq_true g1
     go_wp2
     go_ret
     exact ⟨rfl,hEE⟩
    ·
     have hd2 : decide (T ≤ P) = false:=decide_eq_false g1
     by_cases g2 : 255 < T
     ·
      have e : R = false:=HF.out fun h => by have:=h.2.1; rw [← HT.out.1] at this; omega
      subst e
      have hd3 : decide (255 < T) = true:=decide_eq_true g2
      go_wp2
      go_ret
      exact ⟨rfl,hEE⟩
     ·
      have hd3 : decide (255 < T) = false:=decide_eq_false g2
      by_cases g3 : (65535 : Int) < (L : Int)
      ·
       have e : R = false:=HF.out fun h => by have:=h.2.2.1; rw [← HT.out.2.1] at this; omega
       subst e
       have hd4 : decide ((65535 : Int) < (L : Int)) = true:=decide_eq_true g3
       go_wp2
       go_ret
       exact ⟨rfl,hEE⟩
      ·
       have hd4 : decide ((65535 : Int) < (L : Int)) = false:=decide_eq_false g3
       go_wp2
       go_roundw
       case rel =>
        refine ⟨i + 1,T,by omega,rfl,by go_num,fun j hj => ?_,by omega,by omega,.inr ⟨by omega,HT.out.1⟩,hEE⟩
        by_cases e : j = i
        ·
         subst e
         refine ⟨by rw [← HT.out.1]; omega,by rw [← HT.out.1]; omega,by rw [← HT.out.2.1]; omega,fun h0 => ?_⟩
         rw [← HT.out.1]
         rcases HT.out.2.2 with ⟨h5,_⟩ | ⟨_,h5⟩ <;> omega
        ·
         exact HALL.out j (by omega)
       case measure => simp [intOf]; omega
   ·
    obtain rfl : i = n:=by omega
    have e : R = true:=by
     rw [HR.out.1,mayFs_len (by rw [← HR.out.2.1]; exact hall),← HR.out.2.1]
     exact decide_eq_true hn64
    subst e
    clear hall
    go_wp2
    go_ret
    exact ⟨rfl,hE⟩
theorem clone8_calls (A : Option Addr) (m c : Nat) (bs : List Nat) (hm : m = bs.length) (hle : m ≤ 1000000000) (w : World) (hS : Bs w A bs) :
  Calls Tryz.prog 55 #[.slice A m c] w fun e w' => ∃ A' c',e = .returned (.slice A' m c') ∧ Ext w w' ∧ m ≤ c' ∧ Bs w' A' bs ∧ Fresh w A' bs:=by
 have HS:=veil (And.intro hm hS)
 rcases A with _ | ad
 ·
  have h0 : m = 0:=by
   rcases hS.2 with h | ⟨_,_,h,_⟩
   ·
    omega
   ·
    cases h
  subst h0
  clear hm hS
  have ke : (binOp .eql 33 (.slice none 0 c) (.slice none 0 0)).run Tryz.prog w = .ok (.bool true) w:=by kernel_rfl
  go_enter Tryz.func55,Tryz.ntmps55
  go_wp2
  go_ret
  exact ⟨none,0,rfl,Ext.refl _,Nat.le_refl _,⟨HS.out.2.1,.inl HS.out.1.symm⟩,.inl HS.out.1.symm⟩
 ·
  have ke : (binOp .eql 33 (.slice (some ad) m c) (.slice none 0 0)).run Tryz.prog w = .ok (.bool false) w:=by kernel_rfl
  clear hm hS
  go_enter Tryz.func55,Tryz.ntmps55
  go_wp2_with ((with_reducible refine zas 7 ?_); refine wpl_append0 rfl rfl rfl rfl (zar w _) (HS.out.2.ext (Ext.alloc w _)) HS.out.1 hle ?_; intro A' c' w2 hE2 hc' hB' hF')
  go_ret
  exact ⟨A',c',rfl,(Ext.alloc w _).trans hE2,hc',hB',hF'.imp id fun h b o e => Nat.le_trans (Below.size (Ext.alloc w _)) (h b o e)⟩
end Go.Proofs.YthlbemnbmbmjhaaGreatDoor
namespace Go.Proofs.YthlbemnbmbmjhaaGreatDoor
structure Tk where
 s : Int
 p : Int
 z : Int
 f : Int
 k : Int
def Tk.list (t : Tk) : List Int:=[t.s,t.p,t.z,t.f,t.k]
def tkOf (l : List Int) : Tk:=⟨l.getD 0 0,l.getD 1 0,l.getD 2 0,l.getD 3 0,l.getD 4 0⟩
theorem list_tkOf {l : List Int} (h : l.length = 5) : (tkOf l).list = l:=by
 match l,h with
 | [a,b,c,d,e],_ => rfl
def mayT (t : Tk) : Bool:=decide (1 ≤ t.s ∧ t.s ≤ 2147483647 ∧ 1 ≤ t.p ∧ t.p ≤ 16 ∧ 1 ≤ t.z ∧ t.z ≤ 255 ∧ 0 ≤ t.f ∧ t.f ≤ 1073741824 ∧ 1 ≤ t.k ∧ t.k ≤ 2147483647)
def tkB (t : Tk) : List Nat:=bodyB t.list
theorem mayT_each {t : Tk} (h : mayT t = true) : ∀ n ∈ t.list,0 ≤ n ∧ n ≤ 9223372036854775807:=by
 have h:=of_decide_eq_true h
 intro n hn
 simp only [Tk.list,List.mem_cons,List.not_mem_nil,or_false] at hn
 rcases hn with rfl | rfl | rfl | rfl | rfl <;> omega
theorem tkB_length (t : Tk) : (tkB t).length = 55:=by
 unfold tkB bodyB Tk.list numFs numFs numFs numFs numFs numFs encF encF encF encF encF encF
 simp only [List.length_append,zij,zcf,List.length_nil]
def signedB (body : List Nat) (r s : Nat) : List Nat:=encF [(1,body),(2,sigB r s)]
def twoOk (fs : List Fd) : Prop:=fs.length = 2 ∧ tgF fs 0 = 1 ∧ tgF fs 1 = 2 ∧ (bsF fs 1).length = 64
instance (fs : List Fd) : Decidable (twoOk fs):=by unfold twoOk; exact inferInstance
def partsB (bs : List Nat) : Option (List Nat × Nat × Nat):=match getFs bs with
 | some fs => if twoOk fs then some (bsF fs 0,sigR (bsF fs 1),sigS (bsF fs 1)) else none
 | none => none
theorem zkk {bs body : List Nat} {r s : Nat} (hb : Byt bs) (h : partsB bs = some (body,r,s)) : signedB body r s = bs ∧ Byt body ∧ body.length ≤ 65535 ∧ r < 256 ^ 32 ∧ s < 256 ^ 32:=by
 unfold partsB at h
 cases hg : getFs bs with
 | none => rw [hg] at h; cases h
 | some fs =>
  rw [hg] at h
  simp only at h
  split at h
  ·
   rename_i hok
   injection h with h
   injection h with h1 h
   injection h with h2 h3
   obtain ⟨hl,t0,t1,h64⟩:=hok
   have hB:=get_byt hb hg
   match fs,hl with
   | [(a,x),(c,y)],_ =>
    have hx : Byt x:=hB (a,x) (by simp)
    have hy : Byt y:=hB (c,y) (by simp)
    have e0 : a = 1:=t0
    have e1 : c = 2:=t1
    have e2 : y.length = 64:=h64
    have m0:=mayFs_each (zkv hg).2 (a,x) (by simp)
    subst e0 e1
    have g1 : x = body:=h1
    have g2 : sigR y = r:=h2
    have g3 : sigS y = s:=h3
    subst g1 g2 g3
    refine ⟨?_,hx,m0.2.2,?_,?_⟩
    ·
     unfold signedB
     rw [sig_fore hy e2]
     exact enc_get hb hg
    ·
     have:=zhq (hy.take 32)
     rw [List.length_take,e2] at this
     exact this
    ·
     have:=zhq (hy.drop 32)
     rw [List.length_drop,e2] at this
     exact this
  ·
   cases h
def openB (bs : List Nat) : Option (Tk × Nat × Nat):=match partsB bs with
 | some (body,r,s) => match numbersB body 5 with
  | some l => if mayT (tkOf l) = true then some (tkOf l,r,s) else none
  | none => none
 | none => none
theorem zhr {bs : List Nat} {t : Tk} {r s : Nat} (hb : Byt bs) (h : openB bs = some (t,r,s)) : signedB (tkB t) r s = bs ∧ mayT t = true ∧ partsB bs = some (tkB t,r,s) ∧ r < 256 ^ 32 ∧ s < 256 ^ 32:=by
 unfold openB at h
 cases hp : partsB bs with
 | none => rw [hp] at h; cases h
 | some x =>
  obtain ⟨body,r',s'⟩:=x
  rw [hp] at h
  simp only at h
  obtain ⟨g1,g2,g3,g4,g5⟩:=zkk hb hp
  cases hn : numbersB body 5 with
  | none => rw [hn] at h; cases h
  | some l =>
   rw [hn] at h
   simp only at h
   split at h
   ·
    rename_i hm
    injection h with h
    injection h with h1 h
    injection h with h2 h3
    subst h1 h2 h3
    obtain ⟨k1,k2⟩:=zma g2 hn
    have e : tkB (tkOf l) = body:=by unfold tkB; rw [list_tkOf k1]; exact k2
    rw [e]
    exact ⟨g1,hm,rfl,g4,g5⟩
   ·
    cases h
end Go.Proofs.YthlbemnbmbmjhaaGreatDoor
namespace Go.Proofs.YthlbemnbmbmjhaaGreatDoor
open Go.RowKit
open Go.Value renaming int → vI
open Go.IntKind renaming u64 → vU
open Go.Act renaming put → aP
open List renaming setIfInBounds_toArray → lA, set_cons_zero → lZ, set_cons_succ → lS
def Is (w : World) (v : Value) (l : List Int) : Prop:=∃ A c,v = .slice A l.length c ∧ l.length ≤ c ∧ (l.length = 0 ∨ ∃ b o,A = some ⟨b,o,none⟩ ∧ b < w.heap.size ∧ ∀ i,i < l.length → w.cell? ⟨b,o + i,none⟩ = some (.int .i64 (l.getD i 0)))
theorem Is.ext {w w' : World} {v : Value} {l : List Int} (h : Is w v l) (k : Ext w w') : Is w' v l:=by
 obtain ⟨A,c,e,hc,h⟩:=h
 exact ⟨A,c,e,hc,h.imp id fun ⟨b,o,e,hb,hx⟩ => ⟨b,o,e,Nat.lt_of_lt_of_le hb k.size,fun i hi => (k.cell hb).trans (hx i hi)⟩⟩
section
variable {Q : Exit → Act → World → Prop} {ops : Array Oper} {rest : List Oper} {a : Act} {w : World} {o : Oper}
end
theorem zcn {bs : List Nat} : getFs bs = match parse bs with | some fs => if mayFs fs = true then some fs else none | none => none:=by
 unfold getFs
 cases parse bs with
 | none => rfl
 | some fs => cases h : mayFs fs <;> simp [Option.filter,h]
theorem rget8_calls (A : Option Addr) (m c : Nat) (bs : List Nat) (hm : m = bs.length) (hmc : m ≤ c) (hle : m ≤ 100000000) (w : World) (hS : Bs w A bs) :
  Calls Tryz.prog 33 #[.slice A m c] w fun e w' => Ext w w' ∧ ((getFs bs = none ∧ e = .returned (.tuple #[.slice none 0 0,.bool false])) ∨ (∃ fs v,getFs bs = some fs ∧ Fl w' v fs ∧ e = .returned (.tuple #[v,.bool true]))):=by
 have HS:=veil hS
 have HM:=veil hm
 clear hS hm
 go_enter Tryz.func33,Tryz.ntmps33
 go_wp2
 go_loopw [4,5,6] (fun v u _ wr => ∃ (p : Nat) (fs : List Fd),p ≤ m ∧ u = .int .i64 (p : Int) ∧ OwnFs wr w.heap.size v fs ∧ fs.length ≤ p ∧ parse bs = (parse (bs.drop p)).map (fs ++ ·) ∧ Ext w wr)
  (fun _ v _ _ => m - (intOf v).toNat)
 case atStart => exact ⟨0,[],by omega,rfl,OwnFs.nil _ _,by simp,by simp,Ext.refl _⟩
 case round =>
  obtain ⟨p,fs,hp,rfl,hO,hfl,hpar,hE⟩:=hrel
  by_cases hlt : p < m
  ·
   have hd1 : decide ((p : Int) < (m : Int)) = true:=by simp; omega
   have hii : (p : Int) < (m : Int):=by omega
   by_cases h3 : m < p + 3
   ·
    have hd2 : decide ((m : Int) < (p : Int) + 3) = true:=by simp; omega
    have hn : getFs bs = none:=by
     rw [zcn,hpar,parse_short (by have:=HM.out; omega) (by have:=HM.out; omega)]
     rfl
    clear hpar hO
    go_wp2
    go_ret2
    exact ⟨hE,.inl ⟨hn,rfl⟩⟩
   ·
    have hd2 : decide ((m : Int) < (p : Int) + 3) = false:=by simp; omega
    have hb:=HS.out.ext hE
    obtain ⟨b,o,hA,hbl,c1⟩:=hb.cell (j:=p + 1) (by have:=HM.out; omega)
    obtain ⟨b',o',hA',_,c2⟩:=hb.cell (j:=p + 2) (by have:=HM.out; omega)
    obtain ⟨b'',o'',hA'',_,c0⟩:=hb.cell (j:=p) (by have:=HM.out; omega)
    obtain ⟨e1,e2⟩ : b' = b ∧ o' = o:=by rw [hA] at hA'; injection hA' with h; injection h with h1 h2; exact ⟨h1.symm,h2.symm⟩
    obtain ⟨e3,e4⟩ : b'' = b ∧ o'' = o:=by rw [hA] at hA''; injection hA'' with h; injection h with h1 h2; exact ⟨h1.symm,h2.symm⟩
    subst e1 e2 e3 e4
    have l1:=HS.out.1.getD (p + 1)
    have l2:=HS.out.1.getD (p + 2)
    have l0:=HS.out.1.getD p
    obtain ⟨X,hX⟩ : ∃ X,X = bs.getD (p + 1) 0:=⟨_,rfl⟩
    obtain ⟨Y,hY⟩ : ∃ Y,Y = bs.getD (p + 2) 0:=⟨_,rfl⟩
    obtain ⟨T,hT⟩ : ∃ T,T = bs.getD p 0:=⟨_,rfl⟩
    rw [← hX] at c1 l1
    rw [← hY] at c2 l2
    rw [← hT] at c0 l0
    have HXY:=veil (And.intro hX (And.intro hY hT))
    have k1 : (X : Int) ≤ 255:=by omega
    have k2 : (Y : Int) ≤ 255:=by omega
    have k0 : (T : Int) ≤ 255:=by omega
    have i1 : (p : Int) + 1 < (m : Int):=by omega
    have i2 : (p : Int) + 2 < (m : Int):=by omega
    have HO:=veil (And.intro hO (And.intro hfl hpar))
    have HB:=veil hb
    clear hX hY hT l1 l2 l0 hA' hA'' hO hfl hpar hb
    subst hA
    go_wp2_with fail
    go_quiet (fail)
    obtain ⟨N,hN⟩ : ∃ N,N = 256 * X + Y:=⟨_,rfl⟩
    have hNi : (256 * (X : Int) + (Y : Int)) = (N : Int):=by omega
    have hN2 : N ≤ 65535:=by omega
    have HN:=veil hN
    rw [hNi]
    clear hN hNi c1 c2 k1 k2 i1 i2
    generalize hwr : wr.drewN nq = wr1 at *
    have hE1 : Ext wr wr1:=by rw [← hwr]; exact Ext.drewK _ _
    have hc0 : wr1.cell? ⟨b'',o'' + p,none⟩ = some (.int .u8 T):=(hE1.cell hbl).trans c0
    have hEE:=hE.trans hE1
    have HO1:=veil (And.intro (HO.out.1.keep hE1) (HB.out.ext hE1))
    clear hwr c0
    by_cases h4 : m < p + 3 + N
    ·
     have hd3 : decide ((m : Int) < (p : Int) + 3 + (N : Int)) = true:=by simp; omega
     have hn : getFs bs = none:=by
      rw [zcn,HO.out.2.2,parse_long (n:=N) (by have:=HM.out; omega) (by rw [HN.out,HXY.out.1,HXY.out.2.1]) (by have:=HM.out; omega)]
      rfl
     go_wp2
     go_ret2
     exact ⟨hEE,.inl ⟨hn,rfl⟩⟩
    ·
     have hd3 : decide ((m : Int) < (p : Int) + 3 + (N : Int)) = false:=by simp; omega
     have hst:=parse_more (n:=N) (by have:=HM.out; omega) (by rw [HN.out,HXY.out.1,HXY.out.2.1]) (by have:=HM.out; omega : p + 3 + N ≤ bs.length)
     have HST:=veil hst
     clear hst
     go_upto_region 9 with (fail)
     refine zfb 18 [(true,[0,1,2,3,4,5,7,8,9,10,11,12,13,14]),(false,[6]),(false,[15]),(true,[16]),(false,[17]),(false,[18]),(false,[19])] (by kernel_rfl) (by kernel_rfl) fun Q' hQ' => ?_
     refine' zcj (A:=_) _ rfl (by kernel_rfl) ?h1 ?h2
     case h1 =>
      intro D hD hN
      have d0:=hD.cell hc0
      simp only [pickI,consO,List.getElem?_cons_zero,List.getElem?_cons_succ]
      iterate 13 (go_big_quiet_step (fail))
      go_big_quiet_want
      refine zcu (.slice (cutA (some ⟨b'',o'',none⟩) (p + 3) c) N (c - (p + 3))) (fun x => run_slice_v rfl rfl rfl rfl (cut_mid _ _ _ _ _ (by omega) _ (by omega) (by omega))) ?_
      simp only [aP,lA,lZ,lS]
      go_big_quiet_on
      exact zea
     refine zgg (vs:=[]) (C:=#[]) (e:=5) _ rfl rfl rfl rfl rfl (fun W => by simp [Instr.buildSlice,go_sem]) ?_
     intro g W hg hgb hEW
     simp only [aP,lA,lZ,lS]
     have hBc:=(HO1.out.2.cut (p + 3) (n:=N) (c:=c) (by have:=HM.out; omega) (by have:=HM.out; omega)).ext hEW
     have hl : N = ((bs.drop (p + 3)).take N).length:=by rw [List.length_take,List.length_drop]; have:=HM.out; omega
     refine sched_append0 _ rfl rfl rfl rfl rfl rfl hgb hBc hl (by omega) ?_
     intro A' c' W2 hE2 hc' hB' hF'
     simp only [aP,lA,lZ,lS]
     have HB2:=veil (And.intro hB' (And.intro hF' hl))
     have hEW2:=hEW.trans hE2
     have hsz:=Below.size hEW
     clear hB' hF' hl hBc hgb hg hE2 hEW
     refine' zcj (A:=_) _ rfl (by kernel_rfl) ?k1 ?k2
     case k1 =>
      intro D hD hN
      simp only [pickI,consO,List.getElem?_cons_zero,List.getElem?_cons_succ]
      repeat (go_big_quiet_step (fail))
      exact zea
     refine zgg (vs:=[(0,.agg #[.int .i64 (T : Int),.slice A' N c'])]) (C:=#[.int .i64 (T : Int),.slice A' N c']) (e:=64) _ rfl rfl rfl rfl rfl (fun W => by simp [Instr.buildSlice,go_sem]) ?_
     intro g2 W3 hg2 hgb2 hE3
     simp only [aP,lA,lZ,lS]
     have hEW3:=hEW2.trans hE3
     have hown3:=HO1.out.1.keep hEW3
     have hoff : Off A' ((bs.drop (p + 3)).take N) (Value.ownBlock u4):=HB2.out.2.1.off fun k hk => Nat.lt_of_lt_of_le (HO1.out.1.lt hk).2 hsz
     have hBn:=HB2.out.1.ext hE3
     have hbase:=Nat.le_trans (Below.size hEE) (Below.size hEW3)
     have hNl:=HB2.out.2.2
     have hfl : fs.length ≤ 1000000000:=by have:=HO.out.2.1; omega
     rw [hNl] at hgb2 hc'
     refine zhm (f:=((T : Int),(bs.drop (p + 3)).take N)) (al:=(A',c')) _ rfl rfl rfl rfl rfl rfl (by decide) hown3 hgb2 hc' hBn hoff hfl hbase ?_
     intro v' W4 W5 hE4 hO5 hG5
     simp only [aP,lA,lZ,lS]
     have hE5 : Ext w W5:=(hEE.trans (hEW3.trans hE4)).grown hG5 (Below.size (hEE.trans (hEW3.trans hE4))) fun k hk => (HO1.out.1.lt hk).1
     have HO5:=veil (And.intro hO5 hE5)
     clear hown3 hoff hBn hbase hNl hgb2 hc' hO5 hE5 hG5
     refine zhb v' _ rfl rfl rfl rfl rfl ?_
     intro W6 hE6
     simp only [aP,lA,lZ,lS]
     refine zdx hQ' fun W7 hE7 => ?_
     go_wp2
     go_roundw
     case rel =>
      refine ⟨p + 3 + N,_,by omega,by go_num,(HO5.out.1.keep hE6).keep hE7,?_,?_,HO5.out.2.trans (hE6.trans hE7)⟩
      ·
       rw [List.length_append,List.length_singleton]; have:=HO.out.2.1; omega
      ·
       rw [HO.out.2.2,HST.out,← HXY.out.2.2]
       cases parse (bs.drop (p + 3 + N)) with
       | none => rfl
       | some x => simp
     case measure => simp [intOf]; omega
  ·
   obtain rfl : p = m:=by omega
   have hd1 : decide ((p : Int) < (p : Int)) = false:=by simp
   have hpar2 : parse bs = some fs:=by
    rw [hpar,HM.out,parse_end]
    simp
   have hF:=hO.fl
   have HP:=veil (And.intro hpar2 (And.intro hF hE))
   have hfb : fs.length ≤ 1000000000:=by omega
   have KM:=veil (fun v hv => rmay8_calls v fs wr hv hfb)
   clear hpar hpar2 hF hO
   go_upto_region 12 with (go_at_call 58; refine (KM.out _ HP.out.2.1).mono ?_; rintro e w2 ⟨rfl,hE2⟩)
   cases hmay : mayFs fs with
   | false =>
    have hn : getFs bs = none:=by
     rw [zcn,HP.out.1]
     simp [hmay]
    go_wp2
    go_ret2
    exact ⟨HP.out.2.2.trans hE2,.inl ⟨hn,rfl⟩⟩
   | true =>
    have hn : getFs bs = some fs:=by
     rw [zcn,HP.out.1]
     simp [hmay]
    go_wp2
    go_ret2
    exact ⟨HP.out.2.2.trans hE2,.inr ⟨fs,_,hn,HP.out.2.1.ext hE2,rfl⟩⟩
theorem valB_le {bs : List Nat} (h : Byt bs) (h0 : bs.getD 0 0 ≤ 127) (hl : bs.length = 8) {i : Nat} (hi : i < 8) : valB (bs.take (i + 1)) ≤ 9223372036854775807:=by
 have h1:=zkh h h0 i (by omega)
 have h2 : 128 * 256 ^ i ≤ 128 * 256 ^ 7:=Nat.mul_le_mul_left _ (Nat.pow_le_pow_right (by decide) (by omega))
 have : (128 : Nat) * 256 ^ 7 = 9223372036854775808:=by decide
 omega
theorem rof8_calls (A : Option Addr) (m c : Nat) (bs : List Nat) (hm : m = bs.length) (w : World) (hS : Bs w A bs) :
  Calls Tryz.prog 35 #[.slice A m c] w fun e w' => e = .returned (.int .i64 (ofB bs)) ∧ Ext w w':=by
 have HS:=veil (And.intro hS hm)
 by_cases h8 : m = 8
 ·
  subst h8
  obtain ⟨b,o,hA,hb,c0⟩:=hS.cell (j:=0) (by omega)
  rw [Nat.add_zero] at c0
  have l0:=hS.1.getD 0
  obtain ⟨R,hR⟩ : ∃ R,R = ofB bs:=⟨_,rfl⟩
  rw [← hR]
  obtain ⟨X,hX⟩ : ∃ X,X = bs.getD 0 0:=⟨_,rfl⟩
  rw [← hX] at c0 l0
  have HX:=veil (And.intro hR hX)
  subst hA
  clear hS hm hR hX
  have k0 : (X : Int) ≤ 255:=by omega
  by_cases hx : 127 < X
  ·
   have hd : decide ((127 : Int) < (X : Int)) = true:=by simp; omega
   have hd2 : decide (127 < X) = true:=by simp; omega
   have hr : R = -1:=by
    rw [HX.out.1]
    unfold ofB
    rw [if_neg]
    intro h
    have:=HX.out.2
    omega
   subst hr
   go_enter Tryz.func35,Tryz.ntmps35
   go_wp2_with fail
   go_ret
   exact ⟨rfl,Ext.refl _⟩
  ·
   have hd : decide ((127 : Int) < (X : Int)) = false:=by simp; omega
   have hd2 : decide (127 < X) = false:=by simp; omega
   have hr : R = (valB bs : Nat):=by
    rw [HX.out.1]
    unfold ofB
    rw [if_pos]
    have:=HX.out.2
    have:=HS.out.2
    omega
   have HR:=veil hr
   have hx0 : bs.getD 0 0 ≤ 127:=by rw [← HX.out.2]; omega
   have HV:=veil (fun (i : Nat) (hi : i < 8) => valB_le HS.out.1.1 hx0 HS.out.2.symm hi)
   clear hr hx0
   go_enter Tryz.func35,Tryz.ntmps35
   go_wp2_with fail
   go_loopw [3,4] (fun v u wr => ∃ i : Nat,i ≤ 8 ∧ u = .int .i64 (i : Int) ∧ v = .int .i64 ((valB (bs.take i) : Nat) : Int) ∧ Ext w wr)
    (fun _ v _ => 8 - (intOf v).toNat)
   case atStart => exact ⟨0,by omega,rfl,rfl,Ext.refl _⟩
   case round =>
    obtain ⟨i,hi,rfl,rfl,hE⟩:=hrel
    by_cases hlt : i < 8
    ·
     have hii : (i : Int) < 8:=by omega
     obtain ⟨b2,o2,hA,_,c1⟩:=(HS.out.1.ext hE).cell (j:=i) (by have:=HS.out.2; omega)
     obtain ⟨e1,e2⟩ : b2 = b ∧ o2 = o:=by injection hA with h; injection h with h1 h2; exact ⟨h1.symm,h2.symm⟩
     subst e1 e2
     have l1:=HS.out.1.1.getD i
     have hv:=HV.out i hlt
     rw [zcc (by have:=HS.out.2; omega)] at hv
     obtain ⟨V,hV⟩ : ∃ V,V = valB (bs.take i):=⟨_,rfl⟩
     obtain ⟨Y,hY⟩ : ∃ Y,Y = bs.getD i 0:=⟨_,rfl⟩
     rw [← hV,← hY] at hv
     rw [← hY] at c1 l1
     rw [← hV]
     have HVY:=veil (And.intro hV hY)
     have k1 : (Y : Int) ≤ 255:=by omega
     have k2 : 256 * (V : Int) + (Y : Int) ≤ 9223372036854775807:=by omega
     clear hV hY hv l1 hA
     go_wp2
     go_roundw
     case rel =>
      refine ⟨i + 1,by omega,by go_num,?_,hE⟩
      rw [zcc (by have:=HS.out.2; omega),← HVY.out.1,← HVY.out.2]
      simp
     case measure => simp [intOf]; omega
    ·
     obtain rfl : i = 8:=by omega
     have e : bs.take 8 = bs:=List.take_of_length_le (by have:=HS.out.2; omega)
     rw [e]
     go_wp2
     go_ret
     exact ⟨by rw [HR.out]; rfl,hE⟩
 ·
  have hr : ofB bs = -1:=by
   unfold ofB
   rw [if_neg]
   intro h
   omega
  rw [hr]
  have h8' : ¬ ((m : Int) = 8):=by omega
  clear hr hS hm
  go_enter Tryz.func35,Tryz.ntmps35
  go_wp2_with fail
  go_ret
  exact ⟨rfl,Ext.refl _⟩
end Go.Proofs.YthlbemnbmbmjhaaGreatDoor
