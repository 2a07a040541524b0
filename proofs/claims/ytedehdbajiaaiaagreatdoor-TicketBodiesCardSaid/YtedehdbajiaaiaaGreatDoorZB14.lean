/-
  Of Q10 Q12 G6 G7a PS S0 S1 NL NR1 RBytes.
-/
import Derived.Deep.MidRow
import Derived.Laws.OwnMore
import Derived.Deep.AppendLies
import Derived.Deep.RegionHeld3
import Derived.Test.YtedehdbajiaaiaaGreatDoorZB13
import Derived.Test.YtedehdbajiaaiaaGreatDoorZB10
import Derived.Test.YtedehdbajiaaiaaGreatDoorZB5
import Derived.Test.YtedehdbajiaaiaaGreatDoorZB6
import Derived.Test.YtedehdbajiaaiaaGreatDoorZB11
import Derived.Test.YtedehdbajiaaiaaGreatDoorZB7
import Derived.Test.YtedehdbajiaaiaaGreatDoorZB4
import Derived.Test.YtedehdbajiaaiaaGreatDoorZB2
import Derived.Test.YtedehdbajiaaiaaGreatDoorZB9
set_option maxRecDepth 1000000
set_option maxHeartbeats 20000000
namespace Go.Proofs.YtedehdbajiaaiaaGreatDoor
open Go.RowKit
open Go.Value renaming int → vI
open Go.IntKind renaming u64 → vU
open Go.Act renaming put → aP
open List renaming setIfInBounds_toArray → lA, set_cons_zero → lZ, set_cons_succ → lS
theorem bl_le {X : Nat} (hX : X < top) : bitLen X ≤ 256:=by
 unfold bitLen
 split
 ·
  omega
 ·
  rename_i h
  have:=(Nat.log2_lt h).2 (show X < 2 ^ 256 by rw [← top_two]; exact hX)
  omega
theorem bl_div (X : Nat) : X / 2 ^ bitLen X = 0:=Nat.div_eq_of_lt (bitLen_spec X).1
theorem far_row {w : World} {b t : Nat} (hb : b = w.heap.size) : (w.alloc (.cells #[vI vU 0,vI vU 0,vI vU 0,vI vU 0,vI vU 0,vI vU 0,vI vU 0,vI vU 0,.bool true] t)).rowIs b t 9 (pc 0 0 true):=zag (n:=9) hb rfl fun i hi => by
 have h:=arr9 0 0 true i hi
 simp only [wd_nil] at h
 exact h
theorem zhd (K m : Nat) (q : Pt.Q) : Pt.grp.mul (K / 2 ^ m) q = if bit K m = true then Pt.grp.op (Pt.grp.op (Pt.grp.mul (K / 2 ^ (m + 1)) q) (Pt.grp.mul (K / 2 ^ (m + 1)) q)) q else Pt.grp.op (Pt.grp.mul (K / 2 ^ (m + 1)) q) (Pt.grp.mul (K / 2 ^ (m + 1)) q):=by
 rw [Pt.mul_top]
 have hb : (bit K m = true) = (K / 2 ^ m % 2 = 1):=by unfold bit; simp
 simp only [hb]
theorem rtimes_calls (K : Nat) (hKt : K < top) (q : Pt.Q) (w : World) :
  Calls Tryz.prog 33 #[.agg #[vI vU (wd K 0),vI vU (wd K 1),vI vU (wd K 2),vI vU (wd K 3)],.agg #[vI vU (wd (Pt.pX q.1) 0),vI vU (wd (Pt.pX q.1) 1),vI vU (wd (Pt.pX q.1) 2),vI vU (wd (Pt.pX q.1) 3),vI vU (wd (Pt.pY q.1) 0),vI vU (wd (Pt.pY q.1) 1),vI vU (wd (Pt.pY q.1) 2),vI vU (wd (Pt.pY q.1) 3),.bool (Pt.pFar q.1)]] w fun e w' => e = .returned (.agg #[vI vU (wd (Pt.pX (Pt.grp.mul K q).1) 0),vI vU (wd (Pt.pX (Pt.grp.mul K q).1) 1),vI vU (wd (Pt.pX (Pt.grp.mul K q).1) 2),vI vU (wd (Pt.pX (Pt.grp.mul K q).1) 3),vI vU (wd (Pt.pY (Pt.grp.mul K q).1) 0),vI vU (wd (Pt.pY (Pt.grp.mul K q).1) 1),vI vU (wd (Pt.pY (Pt.grp.mul K q).1) 2),vI vU (wd (Pt.pY (Pt.grp.mul K q).1) 3),.bool (Pt.pFar (Pt.grp.mul K q).1)]) ∧ Below w.heap.size w w':=by
 have hK : (((w.alloc (.cells #[vI vU (wd K 0),vI vU (wd K 1),vI vU (wd K 2),vI vU (wd K 3)] 26)).alloc (.cells #[vI vU (wd (Pt.pX q.1) 0),vI vU (wd (Pt.pX q.1) 1),vI vU (wd (Pt.pX q.1) 2),vI vU (wd (Pt.pX q.1) 3),vI vU (wd (Pt.pY q.1) 0),vI vU (wd (Pt.pY q.1) 1),vI vU (wd (Pt.pY q.1) 2),vI vU (wd (Pt.pY q.1) 3),.bool (Pt.pFar q.1)] 48)).alloc (.cells #[vI vU 0,vI vU 0,vI vU 0,vI vU 0,vI vU 0,vI vU 0,vI vU 0,vI vU 0,.bool false] 48)).rowIs w.heap.size 26 4 (fun j => .int .u64 (wd K j)):=((zag (n:=4) rfl rfl (arr4 fun j => .int .u64 (wd K j))).alloc _).alloc _
 have hA : (((w.alloc (.cells #[vI vU (wd K 0),vI vU (wd K 1),vI vU (wd K 2),vI vU (wd K 3)] 26)).alloc (.cells #[vI vU (wd (Pt.pX q.1) 0),vI vU (wd (Pt.pX q.1) 1),vI vU (wd (Pt.pX q.1) 2),vI vU (wd (Pt.pX q.1) 3),vI vU (wd (Pt.pY q.1) 0),vI vU (wd (Pt.pY q.1) 1),vI vU (wd (Pt.pY q.1) 2),vI vU (wd (Pt.pY q.1) 3),.bool (Pt.pFar q.1)] 48)).alloc (.cells #[vI vU 0,vI vU 0,vI vU 0,vI vU 0,vI vU 0,vI vU 0,vI vU 0,vI vU 0,.bool false] 48)).rowIs (w.heap.size + 1) 48 9 (pc (Pt.pX q.1) (Pt.pY q.1) (Pt.pFar q.1)):=(zez _ _ _ (by simp)).alloc _
 have hR : (((w.alloc (.cells #[vI vU (wd K 0),vI vU (wd K 1),vI vU (wd K 2),vI vU (wd K 3)] 26)).alloc (.cells #[vI vU (wd (Pt.pX q.1) 0),vI vU (wd (Pt.pX q.1) 1),vI vU (wd (Pt.pX q.1) 2),vI vU (wd (Pt.pX q.1) 3),vI vU (wd (Pt.pY q.1) 0),vI vU (wd (Pt.pY q.1) 1),vI vU (wd (Pt.pY q.1) 2),vI vU (wd (Pt.pY q.1) 3),.bool (Pt.pFar q.1)] 48)).alloc (.cells #[vI vU 0,vI vU 0,vI vU 0,vI vU 0,vI vU 0,vI vU 0,vI vU 0,vI vU 0,.bool false] 48)).rowIs (w.heap.size + 1 + 1) 48 9 (pc 0 0 false):=zes (by simp)
 have hB : Below w.heap.size w (((w.alloc (.cells #[vI vU (wd K 0),vI vU (wd K 1),vI vU (wd K 2),vI vU (wd K 3)] 26)).alloc (.cells #[vI vU (wd (Pt.pX q.1) 0),vI vU (wd (Pt.pX q.1) 1),vI vU (wd (Pt.pX q.1) 2),vI vU (wd (Pt.pX q.1) 3),vI vU (wd (Pt.pY q.1) 0),vI vU (wd (Pt.pY q.1) 1),vI vU (wd (Pt.pY q.1) 2),vI vU (wd (Pt.pY q.1) 3),.bool (Pt.pFar q.1)] 48)).alloc (.cells #[vI vU 0,vI vU 0,vI vU 0,vI vU 0,vI vU 0,vI vU 0,vI vU 0,vI vU 0,.bool false] 48)):=(((Below.refl _ _).alloc (by simp) _).alloc (by simp) _).alloc (by simp; omega) _
 have hz : (((w.alloc (.cells #[vI vU (wd K 0),vI vU (wd K 1),vI vU (wd K 2),vI vU (wd K 3)] 26)).alloc (.cells #[vI vU (wd (Pt.pX q.1) 0),vI vU (wd (Pt.pX q.1) 1),vI vU (wd (Pt.pX q.1) 2),vI vU (wd (Pt.pX q.1) 3),vI vU (wd (Pt.pY q.1) 0),vI vU (wd (Pt.pY q.1) 1),vI vU (wd (Pt.pY q.1) 2),vI vU (wd (Pt.pY q.1) 3),.bool (Pt.pFar q.1)] 48)).alloc (.cells #[vI vU 0,vI vU 0,vI vU 0,vI vU 0,vI vU 0,vI vU 0,vI vU 0,vI vU 0,.bool false] 48)).heap.size = w.heap.size + 1 + 1 + 1:=by simp
 have hL : bitLen K ≤ 256:=bl_le hKt
 have hE : K / 2 ^ bitLen K = 0:=bl_div K
 have HT:=veil hKt
 clear hKt
 go_enter Tryz.func33,Tryz.ntmps33
 go_upto_region 1 with (fail)
 generalize (((w.alloc (.cells #[vI vU (wd K 0),vI vU (wd K 1),vI vU (wd K 2),vI vU (wd K 3)] 26)).alloc (.cells #[vI vU (wd (Pt.pX q.1) 0),vI vU (wd (Pt.pX q.1) 1),vI vU (wd (Pt.pX q.1) 2),vI vU (wd (Pt.pX q.1) 3),vI vU (wd (Pt.pY q.1) 0),vI vU (wd (Pt.pY q.1) 1),vI vU (wd (Pt.pY q.1) 2),vI vU (wd (Pt.pY q.1) 3),.bool (Pt.pFar q.1)] 48)).alloc (.cells #[vI vU 0,vI vU 0,vI vU 0,vI vU 0,vI vU 0,vI vU 0,vI vU 0,vI vU 0,.bool false] 48)) = w0 at *
 go_upto_region 2 with (fail)
 have hO : (w0.alloc (.cells #[vI vU 0,vI vU 0,vI vU 0,vI vU 0,vI vU 0,vI vU 0,vI vU 0,vI vU 0,.bool true] 48)).rowIs (w.heap.size + 1 + 1 + 1) 48 9 (pc (Pt.pX (Pt.grp.mul (K / 2 ^ bitLen K) q).1) (Pt.pY (Pt.grp.mul (K / 2 ^ bitLen K) q).1) (Pt.pFar (Pt.grp.mul (K / 2 ^ bitLen K) q).1)):=by
  rw [hE]
  exact far_row hz.symm
 replace hK:=hK.alloc (.cells #[vI vU 0,vI vU 0,vI vU 0,vI vU 0,vI vU 0,vI vU 0,vI vU 0,vI vU 0,.bool true] 48)
 replace hA:=hA.alloc (.cells #[vI vU 0,vI vU 0,vI vU 0,vI vU 0,vI vU 0,vI vU 0,vI vU 0,vI vU 0,.bool true] 48)
 replace hR:=hR.alloc (.cells #[vI vU 0,vI vU 0,vI vU 0,vI vU 0,vI vU 0,vI vU 0,vI vU 0,vI vU 0,.bool true] 48)
 replace hB:=hB.alloc hB.size (.cells #[vI vU 0,vI vU 0,vI vU 0,vI vU 0,vI vU 0,vI vU 0,vI vU 0,vI vU 0,.bool true] 48)
 generalize w0.alloc (.cells #[vI vU 0,vI vU 0,vI vU 0,vI vU 0,vI vU 0,vI vU 0,vI vU 0,vI vU 0,.bool true] 48) = w1 at *
 have HL:=veil hL
 clear hz hE hL
 obtain ⟨k0,k1,k2,k3⟩:=zac hK
 go_wp2_with fail
 refine (rlen_calls K HT.out _).mono ?_
 rintro e w2 ⟨rfl,hb⟩
 clear k0 k1 k2 k3
 replace hK:=zab hK hb hK.lt
 replace hA:=zab hA hb hA.lt
 replace hR:=zab hR hb hR.lt
 replace hO:=zab hO hb hO.lt
 replace hB:=hB.trans (hb.mono hB.size)
 clear hb
 obtain ⟨N,hN⟩ : ∃ N,N = bitLen K:=⟨_,rfl⟩
 rw [← hN] at hO ⊢
 have hN2 : N ≤ 256:=by rw [hN]; exact HL.out
 clear hN
 go_wp2
 go_loopw [6] (fun v6 wr => ∃ j : Nat,j ≤ 256 ∧ v6 = .int .i64 ((j : Int) - 1) ∧ wr.rowIs w.heap.size 26 4 (fun i => .int .u64 (wd K i)) ∧ wr.rowIs (w.heap.size + 1) 48 9 (pc (Pt.pX q.1) (Pt.pY q.1) (Pt.pFar q.1)) ∧ wr.rowIs (w.heap.size + 1 + 1) 48 9 (pc 0 0 false) ∧ wr.rowIs (w.heap.size + 1 + 1 + 1) 48 9 (pc (Pt.pX (Pt.grp.mul (K / 2 ^ j) q).1) (Pt.pY (Pt.grp.mul (K / 2 ^ j) q).1) (Pt.pFar (Pt.grp.mul (K / 2 ^ j) q).1)) ∧ Below w.heap.size w wr)
  (fun v6 _ => (intOf v6 + 1).toNat)
 case atStart => exact ⟨N,hN2,by go_num,hK,hA,hR,hO,hB⟩
 case round =>
  clear hK hA hR hO hB hN2
  obtain ⟨j,hj,hi,hK,hA,hR,hO,hB⟩:=hrel
  cases j with
  | zero =>
   obtain rfl : _ = Value.int .i64 (-1):=hi.trans (by congr 1)
   have HO:=veil (blk9 hO)
   have HR:=veil (blkOf hR)
   have e1 : Pt.grp.mul (K / 2 ^ 0) q = Pt.grp.mul K q:=by rw [Nat.pow_zero,Nat.div_one]
   rw [e1] at HO
   clear hO hR hi e1
   go_wp2_with (first
    | ((with_reducible refine zar 26 ?_); refine wpList_load_row rfl 48 _ rfl (w.heap.size + 1 + 1 + 1) rfl 48 #[vI vU (wd (Pt.pX (Pt.grp.mul K q).1) 0),vI vU (wd (Pt.pX (Pt.grp.mul K q).1) 1),vI vU (wd (Pt.pX (Pt.grp.mul K q).1) 2),vI vU (wd (Pt.pX (Pt.grp.mul K q).1) 3),vI vU (wd (Pt.pY (Pt.grp.mul K q).1) 0),vI vU (wd (Pt.pY (Pt.grp.mul K q).1) 1),vI vU (wd (Pt.pY (Pt.grp.mul K q).1) 2),vI vU (wd (Pt.pY (Pt.grp.mul K q).1) 3),.bool (Pt.pFar (Pt.grp.mul K q).1)] (0,0) _ HO.out Tryz.underlying48 rfl zbg ?_)
    | ((with_reducible refine zbb ?_); refine wpList_store_row rfl 48 _ _ rfl (w.heap.size + 1 + 1) #[vI vU (wd (Pt.pX (Pt.grp.mul K q).1) 0),vI vU (wd (Pt.pX (Pt.grp.mul K q).1) 1),vI vU (wd (Pt.pX (Pt.grp.mul K q).1) 2),vI vU (wd (Pt.pX (Pt.grp.mul K q).1) 3),vI vU (wd (Pt.pY (Pt.grp.mul K q).1) 0),vI vU (wd (Pt.pY (Pt.grp.mul K q).1) 1),vI vU (wd (Pt.pY (Pt.grp.mul K q).1) 2),vI vU (wd (Pt.pY (Pt.grp.mul K q).1) 3),.bool (Pt.pFar (Pt.grp.mul K q).1)] rfl rfl 48 _ HR.out zbg (by rw [zaw]; rfl) (one9 _ _ _) ?_))
   exact bodyPost_ret (results_cell_row rfl _ _ (w.heap.size + 1 + 1) 48 #[vI vU (wd (Pt.pX (Pt.grp.mul K q).1) 0),vI vU (wd (Pt.pX (Pt.grp.mul K q).1) 1),vI vU (wd (Pt.pX (Pt.grp.mul K q).1) 2),vI vU (wd (Pt.pX (Pt.grp.mul K q).1) 3),vI vU (wd (Pt.pY (Pt.grp.mul K q).1) 0),vI vU (wd (Pt.pY (Pt.grp.mul K q).1) 1),vI vU (wd (Pt.pY (Pt.grp.mul K q).1) 2),vI vU (wd (Pt.pY (Pt.grp.mul K q).1) 3),.bool (Pt.pFar (Pt.grp.mul K q).1)] (0,0) _ rfl (setRow_heap wr (w.heap.size + 1 + 1) _ #[vI vU (wd (Pt.pX (Pt.grp.mul K q).1) 0),vI vU (wd (Pt.pX (Pt.grp.mul K q).1) 1),vI vU (wd (Pt.pX (Pt.grp.mul K q).1) 2),vI vU (wd (Pt.pX (Pt.grp.mul K q).1) 3),vI vU (wd (Pt.pY (Pt.grp.mul K q).1) 0),vI vU (wd (Pt.pY (Pt.grp.mul K q).1) 1),vI vU (wd (Pt.pY (Pt.grp.mul K q).1) 2),vI vU (wd (Pt.pY (Pt.grp.mul K q).1) 3),.bool (Pt.pFar (Pt.grp.mul K q).1)] 48 (0,0) HR.out) Tryz.underlying48 rfl zbg) rfl ⟨rfl,zbn hB (by omega) _⟩
  | succ m =>
   obtain rfl : _ = Value.int .i64 (m : Int):=hi.trans (by congr 1; omega)
   have hm : m < 256:=by omega
   clear hi
   have hmi : (0 : Int) ≤ (m : Int):=by omega
   obtain ⟨R0,hR0⟩ : ∃ R,R = Pt.grp.mul (K / 2 ^ (m + 1)) q:=⟨_,rfl⟩
   rw [← hR0] at hO
   have HR0:=veil hR0
   clear hR0
   have hne1 : w.heap.size ≠ (w.heap.size + 1 + 1 + 1):=by omega
   have hne2 : w.heap.size + 1 ≠ (w.heap.size + 1 + 1 + 1):=by omega
   have hne3 : w.heap.size + 1 + 1 ≠ (w.heap.size + 1 + 1 + 1):=by omega
   have HO:=veil (blk9 hO)
   go_wp2_with (first
    | ((with_reducible refine zar 16 ?_); refine wpList_load_row rfl 48 _ rfl (w.heap.size + 1 + 1 + 1) rfl 48 #[vI vU (wd (Pt.pX R0.1) 0),vI vU (wd (Pt.pX R0.1) 1),vI vU (wd (Pt.pX R0.1) 2),vI vU (wd (Pt.pX R0.1) 3),vI vU (wd (Pt.pY R0.1) 0),vI vU (wd (Pt.pY R0.1) 1),vI vU (wd (Pt.pY R0.1) 2),vI vU (wd (Pt.pY R0.1) 3),.bool (Pt.pFar R0.1)] (0,0) _ HO.out Tryz.underlying48 rfl zbg ?_)
    | ((with_reducible refine zar 17 ?_); refine wpList_load_row rfl 48 _ rfl (w.heap.size + 1 + 1 + 1) rfl 48 #[vI vU (wd (Pt.pX R0.1) 0),vI vU (wd (Pt.pX R0.1) 1),vI vU (wd (Pt.pX R0.1) 2),vI vU (wd (Pt.pX R0.1) 3),vI vU (wd (Pt.pY R0.1) 0),vI vU (wd (Pt.pY R0.1) 1),vI vU (wd (Pt.pY R0.1) 2),vI vU (wd (Pt.pY R0.1) 3),.bool (Pt.pFar R0.1)] (0,0) _ HO.out Tryz.underlying48 rfl zbg ?_))
   refine (rplus_calls R0 R0 _).mono ?_
   rintro e w5 ⟨rfl,hb⟩
   replace hK:=zab hK hb hK.lt
   replace hA:=zab hA hb hA.lt
   replace hR:=zab hR hb hR.lt
   replace hO:=zab hO hb hO.lt
   replace hB:=hB.trans (hb.mono hB.size)
   obtain ⟨R1,h1⟩ : ∃ R,R = Pt.grp.op R0 R0:=⟨_,rfl⟩
   rw [← h1]
   have HR1:=veil h1
   have HO:=veil (blkOf hO)
   clear hb h1
   go_upto_region 6 with (first
    | ((with_reducible refine zbb ?_); refine wpList_store_row rfl 48 _ _ rfl (w.heap.size + 1 + 1 + 1) #[vI vU (wd (Pt.pX R1.1) 0),vI vU (wd (Pt.pX R1.1) 1),vI vU (wd (Pt.pX R1.1) 2),vI vU (wd (Pt.pX R1.1) 3),vI vU (wd (Pt.pY R1.1) 0),vI vU (wd (Pt.pY R1.1) 1),vI vU (wd (Pt.pY R1.1) 2),vI vU (wd (Pt.pY R1.1) 3),.bool (Pt.pFar R1.1)] rfl rfl 48 _ HO.out zbg (by rw [zaw]; rfl) (one9 _ _ _) ?_))
   have hO' : (w5.setRow (w.heap.size + 1 + 1 + 1) #[vI vU (wd (Pt.pX R1.1) 0),vI vU (wd (Pt.pX R1.1) 1),vI vU (wd (Pt.pX R1.1) 2),vI vU (wd (Pt.pX R1.1) 3),vI vU (wd (Pt.pY R1.1) 0),vI vU (wd (Pt.pY R1.1) 1),vI vU (wd (Pt.pY R1.1) 2),vI vU (wd (Pt.pY R1.1) 3),.bool (Pt.pFar R1.1)]).rowIs (w.heap.size + 1 + 1 + 1) 48 9 (pc (Pt.pX R1.1) (Pt.pY R1.1) (Pt.pFar R1.1)):=zhg hO rfl (arr9 _ _ _)
   replace hK:=hK.of_block (zbt w5 #[vI vU (wd (Pt.pX R1.1) 0),vI vU (wd (Pt.pX R1.1) 1),vI vU (wd (Pt.pX R1.1) 2),vI vU (wd (Pt.pX R1.1) 3),vI vU (wd (Pt.pY R1.1) 0),vI vU (wd (Pt.pY R1.1) 1),vI vU (wd (Pt.pY R1.1) 2),vI vU (wd (Pt.pY R1.1) 3),.bool (Pt.pFar R1.1)] (by omega))
   replace hA:=hA.of_block (zbt w5 #[vI vU (wd (Pt.pX R1.1) 0),vI vU (wd (Pt.pX R1.1) 1),vI vU (wd (Pt.pX R1.1) 2),vI vU (wd (Pt.pX R1.1) 3),vI vU (wd (Pt.pY R1.1) 0),vI vU (wd (Pt.pY R1.1) 1),vI vU (wd (Pt.pY R1.1) 2),vI vU (wd (Pt.pY R1.1) 3),.bool (Pt.pFar R1.1)] (by omega))
   replace hR:=hR.of_block (zbt w5 #[vI vU (wd (Pt.pX R1.1) 0),vI vU (wd (Pt.pX R1.1) 1),vI vU (wd (Pt.pX R1.1) 2),vI vU (wd (Pt.pX R1.1) 3),vI vU (wd (Pt.pY R1.1) 0),vI vU (wd (Pt.pY R1.1) 1),vI vU (wd (Pt.pY R1.1) 2),vI vU (wd (Pt.pY R1.1) 3),.bool (Pt.pFar R1.1)] (by omega))
   replace hB:=zbn hB (show w.heap.size ≤ (w.heap.size + 1 + 1 + 1) by omega) #[vI vU (wd (Pt.pX R1.1) 0),vI vU (wd (Pt.pX R1.1) 1),vI vU (wd (Pt.pX R1.1) 2),vI vU (wd (Pt.pX R1.1) 3),vI vU (wd (Pt.pY R1.1) 0),vI vU (wd (Pt.pY R1.1) 1),vI vU (wd (Pt.pY R1.1) 2),vI vU (wd (Pt.pY R1.1) 3),.bool (Pt.pFar R1.1)]
   generalize w5.setRow (w.heap.size + 1 + 1 + 1) #[vI vU (wd (Pt.pX R1.1) 0),vI vU (wd (Pt.pX R1.1) 1),vI vU (wd (Pt.pX R1.1) 2),vI vU (wd (Pt.pX R1.1) 3),vI vU (wd (Pt.pY R1.1) 0),vI vU (wd (Pt.pY R1.1) 1),vI vU (wd (Pt.pY R1.1) 2),vI vU (wd (Pt.pY R1.1) 3),.bool (Pt.pFar R1.1)] = w6 at *
   clear hO HO
   have hO:=hO'
   clear hO'
   have hbc:=fun W => rbit_in K m hm W
   by_cases hbit : bit K m = true
   ·
    rw [hbit] at hbc
    have HBIT:=veil hbit
    clear hbit
    obtain ⟨k0,k1,k2,k3⟩:=zac hK
    have HC:=veil hbc
    clear hbc
    go_wp2_with fail
    refine (HC.out _).mono ?_
    rintro e w7 ⟨rfl,hb⟩
    clear k0 k1 k2 k3
    replace hK:=zab hK hb hK.lt
    replace hA:=zab hA hb hA.lt
    replace hR:=zab hR hb hR.lt
    replace hO:=zab hO hb hO.lt
    replace hB:=hB.trans (hb.mono hB.size)
    clear hb
    have HO:=veil (blk9 hO)
    have HA:=veil (blk9 hA)
    go_upto_region 8 with (fail)
    go_wp2_with (first
     | ((with_reducible refine zar 23 ?_); refine wpList_load_row rfl 48 _ rfl (w.heap.size + 1 + 1 + 1) rfl 48 #[vI vU (wd (Pt.pX R1.1) 0),vI vU (wd (Pt.pX R1.1) 1),vI vU (wd (Pt.pX R1.1) 2),vI vU (wd (Pt.pX R1.1) 3),vI vU (wd (Pt.pY R1.1) 0),vI vU (wd (Pt.pY R1.1) 1),vI vU (wd (Pt.pY R1.1) 2),vI vU (wd (Pt.pY R1.1) 3),.bool (Pt.pFar R1.1)] (0,0) _ HO.out Tryz.underlying48 rfl zbg ?_)
     | ((with_reducible refine zar 24 ?_); refine wpList_load_row rfl 48 _ rfl (w.heap.size + 1) rfl 48 #[vI vU (wd (Pt.pX q.1) 0),vI vU (wd (Pt.pX q.1) 1),vI vU (wd (Pt.pX q.1) 2),vI vU (wd (Pt.pX q.1) 3),vI vU (wd (Pt.pY q.1) 0),vI vU (wd (Pt.pY q.1) 1),vI vU (wd (Pt.pY q.1) 2),vI vU (wd (Pt.pY q.1) 3),.bool (Pt.pFar q.1)] (0,0) _ HA.out Tryz.underlying48 rfl zbg ?_))
    refine (rplus_calls R1 q _).mono ?_
    rintro e w5 ⟨rfl,hb⟩
    replace hK:=zab hK hb hK.lt
    replace hA:=zab hA hb hA.lt
    replace hR:=zab hR hb hR.lt
    replace hO:=zab hO hb hO.lt
    replace hB:=hB.trans (hb.mono hB.size)
    obtain ⟨R2,h2⟩ : ∃ R,R = Pt.grp.op R1 q:=⟨_,rfl⟩
    rw [← h2]
    have HR2:=veil h2
    have HO:=veil (blkOf hO)
    clear hb h2
    clear HA
    go_wp2_with (first
     | ((with_reducible refine zbb ?_); refine wpList_store_row rfl 48 _ _ rfl (w.heap.size + 1 + 1 + 1) #[vI vU (wd (Pt.pX R2.1) 0),vI vU (wd (Pt.pX R2.1) 1),vI vU (wd (Pt.pX R2.1) 2),vI vU (wd (Pt.pX R2.1) 3),vI vU (wd (Pt.pY R2.1) 0),vI vU (wd (Pt.pY R2.1) 1),vI vU (wd (Pt.pY R2.1) 2),vI vU (wd (Pt.pY R2.1) 3),.bool (Pt.pFar R2.1)] rfl rfl 48 _ HO.out zbg (by rw [zaw]; rfl) (one9 _ _ _) ?_))
    have hO' : (w5.setRow (w.heap.size + 1 + 1 + 1) #[vI vU (wd (Pt.pX R2.1) 0),vI vU (wd (Pt.pX R2.1) 1),vI vU (wd (Pt.pX R2.1) 2),vI vU (wd (Pt.pX R2.1) 3),vI vU (wd (Pt.pY R2.1) 0),vI vU (wd (Pt.pY R2.1) 1),vI vU (wd (Pt.pY R2.1) 2),vI vU (wd (Pt.pY R2.1) 3),.bool (Pt.pFar R2.1)]).rowIs (w.heap.size + 1 + 1 + 1) 48 9 (pc (Pt.pX R2.1) (Pt.pY R2.1) (Pt.pFar R2.1)):=zhg hO rfl (arr9 _ _ _)
    replace hK:=hK.of_block (zbt w5 #[vI vU (wd (Pt.pX R2.1) 0),vI vU (wd (Pt.pX R2.1) 1),vI vU (wd (Pt.pX R2.1) 2),vI vU (wd (Pt.pX R2.1) 3),vI vU (wd (Pt.pY R2.1) 0),vI vU (wd (Pt.pY R2.1) 1),vI vU (wd (Pt.pY R2.1) 2),vI vU (wd (Pt.pY R2.1) 3),.bool (Pt.pFar R2.1)] (by omega))
    replace hA:=hA.of_block (zbt w5 #[vI vU (wd (Pt.pX R2.1) 0),vI vU (wd (Pt.pX R2.1) 1),vI vU (wd (Pt.pX R2.1) 2),vI vU (wd (Pt.pX R2.1) 3),vI vU (wd (Pt.pY R2.1) 0),vI vU (wd (Pt.pY R2.1) 1),vI vU (wd (Pt.pY R2.1) 2),vI vU (wd (Pt.pY R2.1) 3),.bool (Pt.pFar R2.1)] (by omega))
    replace hR:=hR.of_block (zbt w5 #[vI vU (wd (Pt.pX R2.1) 0),vI vU (wd (Pt.pX R2.1) 1),vI vU (wd (Pt.pX R2.1) 2),vI vU (wd (Pt.pX R2.1) 3),vI vU (wd (Pt.pY R2.1) 0),vI vU (wd (Pt.pY R2.1) 1),vI vU (wd (Pt.pY R2.1) 2),vI vU (wd (Pt.pY R2.1) 3),.bool (Pt.pFar R2.1)] (by omega))
    replace hB:=zbn hB (show w.heap.size ≤ (w.heap.size + 1 + 1 + 1) by omega) #[vI vU (wd (Pt.pX R2.1) 0),vI vU (wd (Pt.pX R2.1) 1),vI vU (wd (Pt.pX R2.1) 2),vI vU (wd (Pt.pX R2.1) 3),vI vU (wd (Pt.pY R2.1) 0),vI vU (wd (Pt.pY R2.1) 1),vI vU (wd (Pt.pY R2.1) 2),vI vU (wd (Pt.pY R2.1) 3),.bool (Pt.pFar R2.1)]
    generalize w5.setRow (w.heap.size + 1 + 1 + 1) #[vI vU (wd (Pt.pX R2.1) 0),vI vU (wd (Pt.pX R2.1) 1),vI vU (wd (Pt.pX R2.1) 2),vI vU (wd (Pt.pX R2.1) 3),vI vU (wd (Pt.pY R2.1) 0),vI vU (wd (Pt.pY R2.1) 1),vI vU (wd (Pt.pY R2.1) 2),vI vU (wd (Pt.pY R2.1) 3),.bool (Pt.pFar R2.1)] = w6 at *
    clear hO HO
    have hO:=hO'
    clear hO'
    go_roundw
    case rel => exact ⟨m,by omega,by go_num,hK,hA,hR,by rw [zhd,if_pos HBIT.out,← HR0.out,← HR1.out,← HR2.out]; exact hO,hB⟩
    case measure => simp [intOf]
   ·
    have hbit : bit K m = false:=by simpa using hbit
    rw [hbit] at hbc
    have HBIT:=veil hbit
    clear hbit
    obtain ⟨k0,k1,k2,k3⟩:=zac hK
    have HC:=veil hbc
    clear hbc
    go_wp2_with fail
    refine (HC.out _).mono ?_
    rintro e w7 ⟨rfl,hb⟩
    clear k0 k1 k2 k3
    replace hK:=zab hK hb hK.lt
    replace hA:=zab hA hb hA.lt
    replace hR:=zab hR hb hR.lt
    replace hO:=zab hO hb hO.lt
    replace hB:=hB.trans (hb.mono hB.size)
    clear hb
    go_wp2
    go_roundw
    case rel => exact ⟨m,by omega,by go_num,hK,hA,hR,by rw [zhd,HBIT.out,if_neg (by decide),← HR0.out,← HR1.out]; exact hO,hB⟩
    case measure => simp [intOf]
theorem rbase_calls (w : World) : Calls Tryz.prog 34 #[] w fun e w' => e = .returned (.agg #[vI vU (wd (Pt.gx) 0),vI vU (wd (Pt.gx) 1),vI vU (wd (Pt.gx) 2),vI vU (wd (Pt.gx) 3),vI vU (wd (Pt.gy) 0),vI vU (wd (Pt.gy) 1),vI vU (wd (Pt.gy) 2),vI vU (wd (Pt.gy) 3),.bool (false)]) ∧ Below w.heap.size w w':=by
 obtain ⟨l0,l1,l2,l3⟩:=gx_lits
 obtain ⟨m0,m1,m2,m3⟩:=gy_lits
 rw [l0,l1,l2,l3,m0,m1,m2,m3]
 clear l0 l1 l2 l3 m0 m1 m2 m3
 have hR : (((w.alloc (.cells #[vI vU 0,vI vU 0,vI vU 0,vI vU 0,vI vU 0,vI vU 0,vI vU 0,vI vU 0,.bool false] 48)).alloc (.cells #[vI vU 17627433388654248598,vI vU 8575836109218198432,vI vU 17923454489921339634,vI vU 7716867327612699207] 26)).alloc (.cells #[vI vU 14678990851816772085,vI vU 3156516839386865358,vI vU 10297457778147434006,vI vU 5756518291402817435] 26)).rowIs w.heap.size 48 9 (pc 0 0 false):=((zes rfl).alloc _).alloc _
 have hB : Below w.heap.size w (((w.alloc (.cells #[vI vU 0,vI vU 0,vI vU 0,vI vU 0,vI vU 0,vI vU 0,vI vU 0,vI vU 0,.bool false] 48)).alloc (.cells #[vI vU 17627433388654248598,vI vU 8575836109218198432,vI vU 17923454489921339634,vI vU 7716867327612699207] 26)).alloc (.cells #[vI vU 14678990851816772085,vI vU 3156516839386865358,vI vU 10297457778147434006,vI vU 5756518291402817435] 26)):=(((Below.refl _ _).alloc (by simp) _).alloc (by simp) _).alloc (by simp; omega) _
 have HR:=veil (blkOf hR)
 clear hR
 go_enter Tryz.func34,Tryz.ntmps34
 go_wp2_with ((with_reducible refine zbb ?_); refine wpList_store_row rfl 48 _ _ rfl w.heap.size #[vI vU 17627433388654248598,vI vU 8575836109218198432,vI vU 17923454489921339634,vI vU 7716867327612699207,vI vU 14678990851816772085,vI vU 3156516839386865358,vI vU 10297457778147434006,vI vU 5756518291402817435,.bool false] rfl rfl 48 _ HR.out zbg (by rw [zaw]; rfl) (by simp [Value.oneCell']) ?_)
 exact bodyPost_ret (results_cell_row rfl _ _ w.heap.size 48 #[vI vU 17627433388654248598,vI vU 8575836109218198432,vI vU 17923454489921339634,vI vU 7716867327612699207,vI vU 14678990851816772085,vI vU 3156516839386865358,vI vU 10297457778147434006,vI vU 5756518291402817435,.bool false] (0,0) _ rfl (setRow_heap _ w.heap.size _ #[vI vU 17627433388654248598,vI vU 8575836109218198432,vI vU 17923454489921339634,vI vU 7716867327612699207,vI vU 14678990851816772085,vI vU 3156516839386865358,vI vU 10297457778147434006,vI vU 5756518291402817435,.bool false] 48 (0,0) HR.out) Tryz.underlying48 rfl zbg) rfl ⟨rfl,zbn hB (Nat.le_refl _) _⟩
theorem gin_small (X M : Nat) (hX : X < M) (hM : M < top) (w : World) :
  Calls Tryz.prog 35 #[.agg #[vI vU (wd X 0),vI vU (wd X 1),vI vU (wd X 2),vI vU (wd X 3)],.agg #[vI vU (wd M 0),vI vU (wd M 1),vI vU (wd M 2),vI vU (wd M 3)]] w fun e w' => e = .returned (.agg #[vI vU (wd X 0),vI vU (wd X 1),vI vU (wd X 2),vI vU (wd X 3)]) ∧ Below w.heap.size w w':=by
 have HL:=veil (show decide (X < M) = true by simpa using hX)
 have hXt : X < top:=by omega
 have hX0 : (((w.alloc (.cells #[vI vU (wd X 0),vI vU (wd X 1),vI vU (wd X 2),vI vU (wd X 3)] 26)).alloc (.cells #[vI vU (wd M 0),vI vU (wd M 1),vI vU (wd M 2),vI vU (wd M 3)] 26)).alloc (.cells #[vI vU 0,vI vU 0,vI vU 0,vI vU 0] 26)).rowIs w.heap.size 26 4 (fun j => .int .u64 (wd X j)):=((zag (n:=4) (by simp) rfl (arr4 fun j => .int .u64 (wd X j))).alloc _).alloc _
 have hM0 : (((w.alloc (.cells #[vI vU (wd X 0),vI vU (wd X 1),vI vU (wd X 2),vI vU (wd X 3)] 26)).alloc (.cells #[vI vU (wd M 0),vI vU (wd M 1),vI vU (wd M 2),vI vU (wd M 3)] 26)).alloc (.cells #[vI vU 0,vI vU 0,vI vU 0,vI vU 0] 26)).rowIs (w.heap.size + 1) 26 4 (fun j => .int .u64 (wd M j)):=(zag (n:=4) (by simp) rfl (arr4 fun j => .int .u64 (wd M j))).alloc _
 have hR0 : (((w.alloc (.cells #[vI vU (wd X 0),vI vU (wd X 1),vI vU (wd X 2),vI vU (wd X 3)] 26)).alloc (.cells #[vI vU (wd M 0),vI vU (wd M 1),vI vU (wd M 2),vI vU (wd M 3)] 26)).alloc (.cells #[vI vU 0,vI vU 0,vI vU 0,vI vU 0] 26)).rowIs (w.heap.size + 1 + 1) 26 4 (fun _ => .int .u64 0):=zag (n:=4) (by simp) rfl (arr4 fun _ => .int .u64 0)
 have hb0 : Below w.heap.size w (((w.alloc (.cells #[vI vU (wd X 0),vI vU (wd X 1),vI vU (wd X 2),vI vU (wd X 3)] 26)).alloc (.cells #[vI vU (wd M 0),vI vU (wd M 1),vI vU (wd M 2),vI vU (wd M 3)] 26)).alloc (.cells #[vI vU 0,vI vU 0,vI vU 0,vI vU 0] 26)):=(((Below.refl _ _).alloc (by simp) _).alloc (by simp) _).alloc (by simp; omega) _
 go_enter Tryz.func35,Tryz.ntmps35
 obtain ⟨a0,a1,a2,a3⟩:=zac hX0
 obtain ⟨c0,c1,c2,c3⟩:=zac hM0
 go_wp2_with fail
 refine (zge X M true HL.out hXt hM _).mono ?_
 rintro e w1 ⟨rfl,hb1⟩
 clear a0 a1 a2 a3 c0 c1 c2 c3
 replace hX0:=zab hX0 hb1 hX0.lt
 replace hR0:=zab hR0 hb1 hR0.lt
 replace hb0:=hb0.trans (hb1.mono hb0.size)
 clear hb1 hM0
 obtain ⟨a0,a1,a2,a3⟩:=zac hX0
 obtain ⟨d0,d1,d2,d3⟩:=zac hR0
 obtain ⟨f0,f1,f2,f3⟩:=zah hR0
 go_wp2
 refine bodyPost_ret (results_cell_row rfl _ _ (w.heap.size + 1 + 1) 26 #[vI vU (wd X 0),vI vU (wd X 1),vI vU (wd X 2),vI vU (wd X 3)] (0,0) _ rfl (blk4 (put4 hR0 fun j => .int .u64 (wd X j))) Tryz.underlying26 rfl (by kernel_rfl)) rfl ⟨rfl,zaj hb0 (by omega) _ _ _ _⟩
def top2 : Nat:=w64 ^ 8
theorem acc_startw (X Y M n : Nat) (h : Y < w64 ^ n) : acc X Y M (64 * n) = 0:=by
 have e : (2 : Nat) ^ 64 = w64:=rfl
 unfold acc; rw [Nat.pow_mul,e,Nat.div_eq_of_lt h]; simp
theorem gin_of (X M : Nat) (a b c d : Int) (ha : wd X 0 = a) (hb : wd X 1 = b) (hc : wd X 2 = c) (hd : wd X 3 = d) (hX : X < M) (hM : M < top) (w : World) :
  Calls Tryz.prog 35 #[.agg #[vI vU a,vI vU b,vI vU c,vI vU d],.agg #[vI vU (wd M 0),vI vU (wd M 1),vI vU (wd M 2),vI vU (wd M 3)]] w fun e w' => e = .returned (.agg #[vI vU (wd X 0),vI vU (wd X 1),vI vU (wd X 2),vI vU (wd X 3)]) ∧ Below w.heap.size w w':=by
 subst ha hb hc hd; exact gin_small X M hX hM w
theorem gcut_calls (Z M : Nat) (hZ : Z < top2) (hM1 : 1 < M) (hM : M < top) (w : World) :
  Calls Tryz.prog 75 #[.agg #[vI vU (wd Z 0),vI vU (wd Z 1),vI vU (wd Z 2),vI vU (wd Z 3),vI vU (wd Z 4),vI vU (wd Z 5),vI vU (wd Z 6),vI vU (wd Z 7)],.agg #[vI vU (wd M 0),vI vU (wd M 1),vI vU (wd M 2),vI vU (wd M 3)]] w fun e w' => e = .returned (.agg #[vI vU (wd (Z % M) 0),vI vU (wd (Z % M) 1),vI vU (wd (Z % M) 2),vI vU (wd (Z % M) 3)]) ∧ Below w.heap.size w w':=by
 have hM0 : 0 < M:=by omega
 obtain ⟨U,hU⟩ : ∃ U,U = 1:=⟨_,rfl⟩
 have HZ:=veil (acc_startw U Z M 8 hZ)
 clear hZ
 have hUM : U < M:=by omega
 have h1:=fun W => gin_of U M 1 0 0 0 (by rw [hU]; decide) (by rw [hU]; decide) (by rw [hU]; decide) (by rw [hU]; decide) hUM hM W
 have H1:=veil h1
 clear h1
 obtain ⟨P,hP⟩ : ∃ P,P = Z % M:=⟨_,rfl⟩
 rw [← hP]
 have HP:=veil (show P = U * Z % M by rw [hU,Nat.one_mul,hP])
 clear hP hU
 have hB0 : ((((w.alloc (.cells #[vI vU (wd Z 0),vI vU (wd Z 1),vI vU (wd Z 2),vI vU (wd Z 3),vI vU (wd Z 4),vI vU (wd Z 5),vI vU (wd Z 6),vI vU (wd Z 7)] 131)).alloc (.cells #[vI vU (wd M 0),vI vU (wd M 1),vI vU (wd M 2),vI vU (wd M 3)] 26)).alloc (.cells #[vI vU 0,vI vU 0,vI vU 0,vI vU 0] 26)).alloc (.cells #[vI vU 0,vI vU 0,vI vU 0,vI vU 0] 26)).rowIs w.heap.size 131 8 (fun j => .int .u64 (wd Z j)):=(((zag (n:=8) (by simp) rfl (arr8 fun j => .int .u64 (wd Z j))).alloc _).alloc _).alloc _
 have hC0 : ((((w.alloc (.cells #[vI vU (wd Z 0),vI vU (wd Z 1),vI vU (wd Z 2),vI vU (wd Z 3),vI vU (wd Z 4),vI vU (wd Z 5),vI vU (wd Z 6),vI vU (wd Z 7)] 131)).alloc (.cells #[vI vU (wd M 0),vI vU (wd M 1),vI vU (wd M 2),vI vU (wd M 3)] 26)).alloc (.cells #[vI vU 0,vI vU 0,vI vU 0,vI vU 0] 26)).alloc (.cells #[vI vU 0,vI vU 0,vI vU 0,vI vU 0] 26)).rowIs (w.heap.size + 1) 26 4 (fun j => .int .u64 (wd M j)):=((zag (n:=4) (by simp) rfl (arr4 fun j => .int .u64 (wd M j))).alloc _).alloc _
 have hR0 : ((((w.alloc (.cells #[vI vU (wd Z 0),vI vU (wd Z 1),vI vU (wd Z 2),vI vU (wd Z 3),vI vU (wd Z 4),vI vU (wd Z 5),vI vU (wd Z 6),vI vU (wd Z 7)] 131)).alloc (.cells #[vI vU (wd M 0),vI vU (wd M 1),vI vU (wd M 2),vI vU (wd M 3)] 26)).alloc (.cells #[vI vU 0,vI vU 0,vI vU 0,vI vU 0] 26)).alloc (.cells #[vI vU 0,vI vU 0,vI vU 0,vI vU 0] 26)).rowIs (w.heap.size + 1 + 1) 26 4 (fun _ => .int .u64 0):=(zag (n:=4) (by simp) rfl (arr4 fun _ => .int .u64 0)).alloc _
 have hO0 : ((((w.alloc (.cells #[vI vU (wd Z 0),vI vU (wd Z 1),vI vU (wd Z 2),vI vU (wd Z 3),vI vU (wd Z 4),vI vU (wd Z 5),vI vU (wd Z 6),vI vU (wd Z 7)] 131)).alloc (.cells #[vI vU (wd M 0),vI vU (wd M 1),vI vU (wd M 2),vI vU (wd M 3)] 26)).alloc (.cells #[vI vU 0,vI vU 0,vI vU 0,vI vU 0] 26)).alloc (.cells #[vI vU 0,vI vU 0,vI vU 0,vI vU 0] 26)).rowIs (w.heap.size + 1 + 1 + 1) 26 4 (fun _ => .int .u64 0):=zag (n:=4) (by simp) rfl (arr4 fun _ => .int .u64 0)
 have hb0 : Below w.heap.size w ((((w.alloc (.cells #[vI vU (wd Z 0),vI vU (wd Z 1),vI vU (wd Z 2),vI vU (wd Z 3),vI vU (wd Z 4),vI vU (wd Z 5),vI vU (wd Z 6),vI vU (wd Z 7)] 131)).alloc (.cells #[vI vU (wd M 0),vI vU (wd M 1),vI vU (wd M 2),vI vU (wd M 3)] 26)).alloc (.cells #[vI vU 0,vI vU 0,vI vU 0,vI vU 0] 26)).alloc (.cells #[vI vU 0,vI vU 0,vI vU 0,vI vU 0] 26)):=((((Below.refl _ _).alloc (by simp) _).alloc (by simp) _).alloc (by simp; omega) _).alloc (by simp; omega) _
 have hz0 : w.heap.size + 1 + 1 + 1 < ((((w.alloc (.cells #[vI vU (wd Z 0),vI vU (wd Z 1),vI vU (wd Z 2),vI vU (wd Z 3),vI vU (wd Z 4),vI vU (wd Z 5),vI vU (wd Z 6),vI vU (wd Z 7)] 131)).alloc (.cells #[vI vU (wd M 0),vI vU (wd M 1),vI vU (wd M 2),vI vU (wd M 3)] 26)).alloc (.cells #[vI vU 0,vI vU 0,vI vU 0,vI vU 0] 26)).alloc (.cells #[vI vU 0,vI vU 0,vI vU 0,vI vU 0] 26)).heap.size:=by simp
 obtain ⟨c0,c1,c2,c3⟩:=zac hC0
 go_enter Tryz.func75,Tryz.ntmps75
 go_wp2_with fail
 refine (H1.out _).mono ?_
 rintro e w1 ⟨rfl,hb1⟩
 clear c0 c1 c2 c3
 replace hB0:=(zab hB0 hb1 hB0.lt).alloc (.cells #[vI vU (wd U 0),vI vU (wd U 1),vI vU (wd U 2),vI vU (wd U 3)] 26)
 replace hC0:=(zab hC0 hb1 hC0.lt).alloc (.cells #[vI vU (wd U 0),vI vU (wd U 1),vI vU (wd U 2),vI vU (wd U 3)] 26)
 replace hR0:=(zab hR0 hb1 hR0.lt).alloc (.cells #[vI vU (wd U 0),vI vU (wd U 1),vI vU (wd U 2),vI vU (wd U 3)] 26)
 replace hO0:=(zab hO0 hb1 hO0.lt).alloc (.cells #[vI vU (wd U 0),vI vU (wd U 1),vI vU (wd U 2),vI vU (wd U 3)] 26)
 replace hz0 : w.heap.size + 1 + 1 + 1 < w1.heap.size:=Nat.lt_of_lt_of_le hz0 hb1.size
 replace hb0:=(hb0.trans (hb1.mono hb0.size)).alloc (by omega) (.cells #[vI vU (wd U 0),vI vU (wd U 1),vI vU (wd U 2),vI vU (wd U 3)] 26)
 have hA0 : (w1.alloc (.cells #[vI vU (wd U 0),vI vU (wd U 1),vI vU (wd U 2),vI vU (wd U 3)] 26)).rowIs w1.heap.size 26 4 (fun j => .int .u64 (wd U j)):=zag (n:=4) rfl rfl (arr4 fun j => .int .u64 (wd U j))
 clear hb1
 go_wp2_with fail
 generalize w1.heap.size = g at *
 generalize w1.alloc (.cells #[vI vU (wd U 0),vI vU (wd U 1),vI vU (wd U 2),vI vU (wd U 3)] 26) = w0 at *
 go_loopw [7] (fun i wr => ∃ k : Nat,k ≤ 8 ∧ i = .int .i64 ((k : Int) - 1) ∧ wr.rowIs g 26 4 (fun j => .int .u64 (wd U j)) ∧ wr.rowIs w.heap.size 131 8 (fun j => .int .u64 (wd Z j)) ∧ wr.rowIs (w.heap.size + 1) 26 4 (fun j => .int .u64 (wd M j)) ∧ wr.rowIs (w.heap.size + 1 + 1) 26 4 (fun _ => .int .u64 0) ∧ wr.rowIs (w.heap.size + 1 + 1 + 1) 26 4 (fun j => .int .u64 (wd (acc U Z M (64 * k)) j)) ∧ Below w.heap.size w wr)
  (fun i _ => (intOf i + 1).toNat)
 case atStart => exact ⟨8,by omega,rfl,hA0,hB0,hC0,hR0,hO0.congr (fun j hj => by rw [HZ.out]; unfold wd dg; simp),hb0⟩
 case round =>
  obtain ⟨k,hk,hi,hA,hB,hC,hR,hO,hbel⟩:=hrel
  clear hA0 hB0 hC0 hR0 hO0 hb0
  cases k with
  | zero =>
   subst hi
   have hO:=hO.congr (g:=fun j => .int .u64 (wd P j)) (fun j _ => by rw [Nat.mul_zero,acc_end,← HP.out])
   obtain ⟨o0,o1,o2,o3⟩:=zac hO
   obtain ⟨d0,d1,d2,d3⟩:=zac hR
   obtain ⟨f0,f1,f2,f3⟩:=zah hR
   go_wp2
   refine bodyPost_ret (results_cell_row rfl _ _ (w.heap.size + 1 + 1) 26 #[vI vU (wd P 0),vI vU (wd P 1),vI vU (wd P 2),vI vU (wd P 3)] (0,0) _ rfl (blk4 (put4 hR fun j => .int .u64 (wd P j))) Tryz.underlying26 rfl (by kernel_rfl)) rfl ⟨rfl,zaj hbel (by omega) _ _ _ _⟩
  | succ k =>
   obtain rfl : _ = Value.int .i64 (k : Int):=hi.trans (by congr 1; omega)
   clear hi
   have hk4 : k < 8:=by omega
   have c1:=hB.cell hk4
   go_wp2
   clear c1
   obtain ⟨wo,hwo⟩ : ∃ wo : World,wo = wr:=⟨_,rfl⟩
   rw [← hwo] at hA hB hC hR hO hbel ⊢
   clear hwo
   go_loopw [8,9] (fun q kk wq => ∃ m : Nat,m ≤ 64 ∧ kk = .int .i64 m ∧ q = .int .u64 (mw Z k m : Nat) ∧ wq.rowIs g 26 4 (fun j => .int .u64 (wd U j)) ∧ wq.rowIs w.heap.size 131 8 (fun j => .int .u64 (wd Z j)) ∧ wq.rowIs (w.heap.size + 1) 26 4 (fun j => .int .u64 (wd M j)) ∧ wq.rowIs (w.heap.size + 1 + 1) 26 4 (fun _ => .int .u64 0) ∧ wq.rowIs (w.heap.size + 1 + 1 + 1) 26 4 (fun j => .int .u64 (wd (acc U Z M (64 * (k + 1) - m)) j)) ∧ Below w.heap.size w wq)
    (fun _ kk _ => 64 - (intOf kk).toNat)
   case atStart => exact ⟨0,by omega,rfl,by rw [mw_zero]; rfl,hA,hB,hC,hR,hO,hbel⟩
   case round =>
    obtain ⟨m,hm,rfl,rfl,hA,hB,hC,hR,hO,hbel⟩:=hrel
    by_cases hlt : m < 64
    ·
     have hq:=mw_lt Z k m
     have hs : IntKind.u64.wrap ((mw Z k m : Nat) + (mw Z k m : Nat)) = ((mw Z k (m + 1) : Nat) : Int):=by
      rw [IntKind.wrap_u64,← mw_succ]; generalize mw Z k m = z; omega
     have ht:=mw_top Z k m hlt
     obtain ⟨z,hz⟩ : ∃ z : Int,z = ((mw Z k m : Nat) : Int):=⟨_,rfl⟩
     rw [← hz] at hs ⊢
     have hz0 : 0 ≤ z:=by omega
     have hz1 : z < 18446744073709551616:=by omega
     obtain ⟨n,hn⟩ : ∃ n,n = 64 * k + (63 - m):=⟨_,rfl⟩
     rw [← hn] at ht
     rw [show 64 * (k + 1) - m = n + 1 by omega] at hO
     have hVM:=acc_lt (X:=U) (Y:=Z) (n:=n + 1) hM0
     have e1:=acc_twice U Z M n
     have e2:=acc_more U Z M n
     generalize acc U Z M (n + 1) = V at *
     obtain ⟨D,hD⟩ : ∃ D,D = (V + V) % M:=⟨_,rfl⟩
     rw [← hD] at e1 e2
     have hDM : D < M:=by rw [hD]; exact Nat.mod_lt _ hM0
     have h1:=fun W => zei V V M hVM hVM hM W
     rw [← hD] at h1
     have H1:=veil h1
     clear h1
     obtain ⟨o0,o1,o2,o3⟩:=zac hO
     obtain ⟨c0,c1,c2,c3⟩:=zac hC
     by_cases hbit : 9223372036854775808 ≤ mw Z k m
     ·
      have h2:=fun W => zei D U M hDM hUM hM W
      rw [e2 (ht.1 hbit)] at h2
      have H2:=veil h2
      have hbI : 9223372036854775808 ≤ z:=by omega
      clear h2 e1 e2 hD ht hq hbit hz
      have hN:=veil hn
      clear hn
      obtain ⟨T,hT⟩ : ∃ T,T = acc U Z M n:=⟨_,rfl⟩
      rw [← hT] at H2
      have HT:=veil hT
      clear hT
      go_wp2_with fail
      refine (H1.out _).mono ?_
      rintro e w1 ⟨rfl,hb1⟩
      clear o0 o1 o2 o3 c0 c1 c2 c3
      replace hA:=zab hA hb1 hA.lt
      replace hB:=zab hB hb1 hB.lt
      replace hC:=zab hC hb1 hC.lt
      replace hR:=zab hR hb1 hR.lt
      replace hO:=zab hO hb1 hO.lt
      replace hbel:=hbel.trans (hb1.mono hbel.size)
      clear hb1
      obtain ⟨o0,o1,o2,o3⟩:=zac hO
      obtain ⟨f0,f1,f2,f3⟩:=zah hO
      go_upto_region 11 with (fail)
      replace hA:=zai hA (b':=w.heap.size + 1 + 1 + 1) (by omega) (.int .u64 (wd D 0)) (.int .u64 (wd D 1)) (.int .u64 (wd D 2)) (.int .u64 (wd D 3))
      replace hB:=zai hB (b':=w.heap.size + 1 + 1 + 1) (by omega) (.int .u64 (wd D 0)) (.int .u64 (wd D 1)) (.int .u64 (wd D 2)) (.int .u64 (wd D 3))
      replace hC:=zai hC (b':=w.heap.size + 1 + 1 + 1) (by omega) (.int .u64 (wd D 0)) (.int .u64 (wd D 1)) (.int .u64 (wd D 2)) (.int .u64 (wd D 3))
      replace hR:=zai hR (b':=w.heap.size + 1 + 1 + 1) (by omega) (.int .u64 (wd D 0)) (.int .u64 (wd D 1)) (.int .u64 (wd D 2)) (.int .u64 (wd D 3))
      replace hbel:=zaj (b:=w.heap.size + 1 + 1 + 1) hbel (by omega) (.int .u64 (wd D 0)) (.int .u64 (wd D 1)) (.int .u64 (wd D 2)) (.int .u64 (wd D 3))
      replace hO:=put4 hO (fun j => .int .u64 (wd D j))
      clear o0 o1 o2 o3 f0 f1 f2 f3
      generalize (((w1.setCell ⟨w.heap.size + 1 + 1 + 1,0,none⟩ (.int .u64 (wd D 0))).setCell ⟨w.heap.size + 1 + 1 + 1,1,none⟩ (.int .u64 (wd D 1))).setCell ⟨w.heap.size + 1 + 1 + 1,2,none⟩ (.int .u64 (wd D 2))).setCell ⟨w.heap.size + 1 + 1 + 1,3,none⟩ (.int .u64 (wd D 3)) = v1 at *
      obtain ⟨o0,o1,o2,o3⟩:=zac hO
      obtain ⟨c0,c1,c2,c3⟩:=zac hC
      obtain ⟨a0,a1,a2,a3⟩:=zac hA
      go_wp2_with fail
      refine (H2.out _).mono ?_
      rintro e w2 ⟨rfl,hb2⟩
      clear o0 o1 o2 o3 c0 c1 c2 c3 a0 a1 a2 a3
      replace hA:=zab hA hb2 hA.lt
      replace hB:=zab hB hb2 hB.lt
      replace hC:=zab hC hb2 hC.lt
      replace hR:=zab hR hb2 hR.lt
      replace hO:=zab hO hb2 hO.lt
      replace hbel:=hbel.trans (hb2.mono hbel.size)
      clear hb2
      obtain ⟨o0,o1,o2,o3⟩:=zac hO
      obtain ⟨f0,f1,f2,f3⟩:=zah hO
      go_upto_region 13 with (fail)
      replace hA:=zai hA (b':=w.heap.size + 1 + 1 + 1) (by omega) (.int .u64 (wd T 0)) (.int .u64 (wd T 1)) (.int .u64 (wd T 2)) (.int .u64 (wd T 3))
      replace hB:=zai hB (b':=w.heap.size + 1 + 1 + 1) (by omega) (.int .u64 (wd T 0)) (.int .u64 (wd T 1)) (.int .u64 (wd T 2)) (.int .u64 (wd T 3))
      replace hC:=zai hC (b':=w.heap.size + 1 + 1 + 1) (by omega) (.int .u64 (wd T 0)) (.int .u64 (wd T 1)) (.int .u64 (wd T 2)) (.int .u64 (wd T 3))
      replace hR:=zai hR (b':=w.heap.size + 1 + 1 + 1) (by omega) (.int .u64 (wd T 0)) (.int .u64 (wd T 1)) (.int .u64 (wd T 2)) (.int .u64 (wd T 3))
      replace hbel:=zaj (b:=w.heap.size + 1 + 1 + 1) hbel (by omega) (.int .u64 (wd T 0)) (.int .u64 (wd T 1)) (.int .u64 (wd T 2)) (.int .u64 (wd T 3))
      replace hO:=put4 hO (fun j => .int .u64 (wd T j))
      clear o0 o1 o2 o3 f0 f1 f2 f3
      generalize (((w2.setCell ⟨w.heap.size + 1 + 1 + 1,0,none⟩ (.int .u64 (wd T 0))).setCell ⟨w.heap.size + 1 + 1 + 1,1,none⟩ (.int .u64 (wd T 1))).setCell ⟨w.heap.size + 1 + 1 + 1,2,none⟩ (.int .u64 (wd T 2))).setCell ⟨w.heap.size + 1 + 1 + 1,3,none⟩ (.int .u64 (wd T 3)) = v2 at *
      obtain ⟨o0,o1,o2,o3⟩:=zac hO
      obtain ⟨c0,c1,c2,c3⟩:=zac hC
      go_wp2
      go_roundw
      case rel => exact ⟨m + 1,by omega,by go_num,rfl,hA,hB,hC,hR,by rw [show 64 * (k + 1) - (m + 1) = n by have:=hN.out; omega,← HT.out]; exact hO,hbel⟩
      case measure => simp [intOf]; omega
     ·
      have e1:=e1 (by have:=ht.2; omega)
      have hbI : z < 9223372036854775808:=by omega
      have hN:=veil hn
      have E1:=veil e1
      clear e1 e2 hD ht hq hbit hz hn
      go_wp2_with fail
      refine (H1.out _).mono ?_
      rintro e w1 ⟨rfl,hb1⟩
      clear o0 o1 o2 o3 c0 c1 c2 c3
      replace hA:=zab hA hb1 hA.lt
      replace hB:=zab hB hb1 hB.lt
      replace hC:=zab hC hb1 hC.lt
      replace hR:=zab hR hb1 hR.lt
      replace hO:=zab hO hb1 hO.lt
      replace hbel:=hbel.trans (hb1.mono hbel.size)
      clear hb1
      obtain ⟨o0,o1,o2,o3⟩:=zac hO
      obtain ⟨f0,f1,f2,f3⟩:=zah hO
      go_upto_region 11 with (fail)
      replace hA:=zai hA (b':=w.heap.size + 1 + 1 + 1) (by omega) (.int .u64 (wd D 0)) (.int .u64 (wd D 1)) (.int .u64 (wd D 2)) (.int .u64 (wd D 3))
      replace hB:=zai hB (b':=w.heap.size + 1 + 1 + 1) (by omega) (.int .u64 (wd D 0)) (.int .u64 (wd D 1)) (.int .u64 (wd D 2)) (.int .u64 (wd D 3))
      replace hC:=zai hC (b':=w.heap.size + 1 + 1 + 1) (by omega) (.int .u64 (wd D 0)) (.int .u64 (wd D 1)) (.int .u64 (wd D 2)) (.int .u64 (wd D 3))
      replace hR:=zai hR (b':=w.heap.size + 1 + 1 + 1) (by omega) (.int .u64 (wd D 0)) (.int .u64 (wd D 1)) (.int .u64 (wd D 2)) (.int .u64 (wd D 3))
      replace hbel:=zaj (b:=w.heap.size + 1 + 1 + 1) hbel (by omega) (.int .u64 (wd D 0)) (.int .u64 (wd D 1)) (.int .u64 (wd D 2)) (.int .u64 (wd D 3))
      replace hO:=put4 hO (fun j => .int .u64 (wd D j))
      clear o0 o1 o2 o3 f0 f1 f2 f3
      generalize (((w1.setCell ⟨w.heap.size + 1 + 1 + 1,0,none⟩ (.int .u64 (wd D 0))).setCell ⟨w.heap.size + 1 + 1 + 1,1,none⟩ (.int .u64 (wd D 1))).setCell ⟨w.heap.size + 1 + 1 + 1,2,none⟩ (.int .u64 (wd D 2))).setCell ⟨w.heap.size + 1 + 1 + 1,3,none⟩ (.int .u64 (wd D 3)) = v1 at *
      obtain ⟨o0,o1,o2,o3⟩:=zac hO
      obtain ⟨c0,c1,c2,c3⟩:=zac hC
      go_wp2
      go_roundw
      case rel => exact ⟨m + 1,by omega,by go_num,rfl,hA,hB,hC,hR,by rw [show 64 * (k + 1) - (m + 1) = n by have:=hN.out; omega,← E1.out]; exact hO,hbel⟩
      case measure => simp [intOf]; omega
    ·
     obtain rfl : m = 64:=by omega
     go_wp2
     go_roundw
     case rel => exact ⟨k,by omega,by go_num,hA,hB,hC,hR,by rw [show 64 * (k + 1) - 64 = 64 * k by omega] at hO; exact hO,hbel⟩
     case measure => simp [intOf]
theorem top_le_top2 : top ≤ top2:=by
 show w64 ^ 4 ≤ w64 ^ 8
 exact Nat.pow_le_pow_right zbc (by omega)
theorem gcut_num (X M P : Nat) (hP : X % M = P) (hX : X < top) (hM1 : 1 < M) (hM : M < top) (w : World) :
  Calls Tryz.prog 75 #[.agg #[vI vU (wd X 0),vI vU (wd X 1),vI vU (wd X 2),vI vU (wd X 3),vI vU 0,vI vU 0,vI vU 0,vI vU 0],.agg #[vI vU (wd M 0),vI vU (wd M 1),vI vU (wd M 2),vI vU (wd M 3)]] w fun e w' => e = .returned (.agg #[vI vU (wd P 0),vI vU (wd P 1),vI vU (wd P 2),vI vU (wd P 3)]) ∧ Below w.heap.size w w':=by
 subst hP
 obtain ⟨e4,e5,e6,e7⟩:=num_wide X hX
 have h:=gcut_calls X M (Nat.lt_of_lt_of_le hX top_le_top2) hM1 hM w
 rw [e4,e5,e6,e7] at h
 exact h
theorem gin_big (X M P : Nat) (hP : X % M = P) (hX : X < top) (hXM : decide (X < M) = false) (hM1 : 1 < M) (hM : M < top) (w : World) :
  Calls Tryz.prog 35 #[.agg #[vI vU (wd X 0),vI vU (wd X 1),vI vU (wd X 2),vI vU (wd X 3)],.agg #[vI vU (wd M 0),vI vU (wd M 1),vI vU (wd M 2),vI vU (wd M 3)]] w fun e w' => e = .returned (.agg #[vI vU (wd P 0),vI vU (wd P 1),vI vU (wd P 2),vI vU (wd P 3)]) ∧ Below w.heap.size w w':=by
 have HL:=veil hXM
 have h2:=fun W => gcut_num X M P hP hX hM1 hM W
 have H2:=veil h2
 clear h2 hXM hP
 have hX0 : (((w.alloc (.cells #[vI vU (wd X 0),vI vU (wd X 1),vI vU (wd X 2),vI vU (wd X 3)] 26)).alloc (.cells #[vI vU (wd M 0),vI vU (wd M 1),vI vU (wd M 2),vI vU (wd M 3)] 26)).alloc (.cells #[vI vU 0,vI vU 0,vI vU 0,vI vU 0] 26)).rowIs w.heap.size 26 4 (fun j => .int .u64 (wd X j)):=((zag (n:=4) (by simp) rfl (arr4 fun j => .int .u64 (wd X j))).alloc _).alloc _
 have hM0 : (((w.alloc (.cells #[vI vU (wd X 0),vI vU (wd X 1),vI vU (wd X 2),vI vU (wd X 3)] 26)).alloc (.cells #[vI vU (wd M 0),vI vU (wd M 1),vI vU (wd M 2),vI vU (wd M 3)] 26)).alloc (.cells #[vI vU 0,vI vU 0,vI vU 0,vI vU 0] 26)).rowIs (w.heap.size + 1) 26 4 (fun j => .int .u64 (wd M j)):=(zag (n:=4) (by simp) rfl (arr4 fun j => .int .u64 (wd M j))).alloc _
 have hR0 : (((w.alloc (.cells #[vI vU (wd X 0),vI vU (wd X 1),vI vU (wd X 2),vI vU (wd X 3)] 26)).alloc (.cells #[vI vU (wd M 0),vI vU (wd M 1),vI vU (wd M 2),vI vU (wd M 3)] 26)).alloc (.cells #[vI vU 0,vI vU 0,vI vU 0,vI vU 0] 26)).rowIs (w.heap.size + 1 + 1) 26 4 (fun _ => .int .u64 0):=zag (n:=4) (by simp) rfl (arr4 fun _ => .int .u64 0)
 have hb0 : Below w.heap.size w (((w.alloc (.cells #[vI vU (wd X 0),vI vU (wd X 1),vI vU (wd X 2),vI vU (wd X 3)] 26)).alloc (.cells #[vI vU (wd M 0),vI vU (wd M 1),vI vU (wd M 2),vI vU (wd M 3)] 26)).alloc (.cells #[vI vU 0,vI vU 0,vI vU 0,vI vU 0] 26)):=(((Below.refl _ _).alloc (by simp) _).alloc (by simp) _).alloc (by simp; omega) _
 go_enter Tryz.func35,Tryz.ntmps35
 obtain ⟨a0,a1,a2,a3⟩:=zac hX0
 obtain ⟨c0,c1,c2,c3⟩:=zac hM0
 go_wp2_with fail
 refine (zge X M false HL.out hX hM _).mono ?_
 rintro e w1 ⟨rfl,hb1⟩
 clear a0 a1 a2 a3 c0 c1 c2 c3
 replace hX0:=zab hX0 hb1 hX0.lt
 replace hM0:=zab hM0 hb1 hM0.lt
 replace hR0:=zab hR0 hb1 hR0.lt
 replace hb0:=hb0.trans (hb1.mono hb0.size)
 clear hb1
 obtain ⟨a0,a1,a2,a3⟩:=zac hX0
 obtain ⟨c0,c1,c2,c3⟩:=zac hM0
 obtain ⟨d0,d1,d2,d3⟩:=zac hR0
 obtain ⟨f0,f1,f2,f3⟩:=zah hR0
 go_wp2_with fail
 refine (H2.out _).mono ?_
 rintro e w2 ⟨rfl,hb1⟩
 clear a0 a1 a2 a3 c0 c1 c2 c3 d0 d1 d2 d3 f0 f1 f2 f3
 replace hR0:=zab hR0 hb1 hR0.lt
 replace hb0:=hb0.trans (hb1.mono hb0.size)
 clear hb1 hX0 hM0
 obtain ⟨d0,d1,d2,d3⟩:=zac hR0
 obtain ⟨f0,f1,f2,f3⟩:=zah hR0
 go_wp2
 refine bodyPost_ret (results_cell_row rfl _ _ (w.heap.size + 1 + 1) 26 #[vI vU (wd P 0),vI vU (wd P 1),vI vU (wd P 2),vI vU (wd P 3)] (0,0) _ rfl (blk4 (put4 hR0 fun j => .int .u64 (wd P j))) Tryz.underlying26 rfl (by kernel_rfl)) rfl ⟨rfl,zaj hb0 (by omega) _ _ _ _⟩
theorem gin_calls (X M : Nat) (hX : X < top) (hM1 : 1 < M) (hM : M < top) (w : World) :
  Calls Tryz.prog 35 #[.agg #[vI vU (wd X 0),vI vU (wd X 1),vI vU (wd X 2),vI vU (wd X 3)],.agg #[vI vU (wd M 0),vI vU (wd M 1),vI vU (wd M 2),vI vU (wd M 3)]] w fun e w' => e = .returned (.agg #[vI vU (wd (X % M) 0),vI vU (wd (X % M) 1),vI vU (wd (X % M) 2),vI vU (wd (X % M) 3)]) ∧ Below w.heap.size w w':=by
 by_cases h : X < M
 ·
  rw [Nat.mod_eq_of_lt h]; exact gin_small X M h hM w
 ·
  exact gin_big X M _ rfl hX (by simpa using h) hM1 hM w
end Go.Proofs.YtedehdbajiaaiaaGreatDoor
namespace Go.Proofs.YtedehdbajiaaiaaGreatDoor.Pt
theorem nn_big : 3 < nn:=by decide +kernel
theorem nn_root : ∃ g : Fin nn,Root g:=by
 obtain ⟨ps,hp,h⟩:=(tab_pr tab [2] two_only tab_ok (0xffffffff00000000ffffffffffffffffbce6faada7179e84f3b9cac2fc632551,7,[2,2,2,2,3,71,131,373,3407,17449,38189,187019741,622491383,1002328039319,2624747550333869278416773953]) (by decide +kernel)).2
 exact ⟨_,(row_root (n:=nn) hp h).2⟩
abbrev Ne:=Fin nn
theorem nn_one : 1 < nn:=by have:=nn_big; omega
section
variable {n : Nat} [NeZero n]
theorem uniq_inv {x y z : Fin n} (h1 : x * y = 1) (h2 : x * z = 1) : y = z:=by
 have e : y = y * (x * z):=by rw [h2,zhv]
 rw [e,← zfs,zgr y x,h1,zgp]
theorem F_vlt {a : Nat} (h : a < n) : (F a : Fin n).val = a:=Nat.mod_eq_of_lt h
theorem F_mul_one (hn : 1 < n) {a t : Nat} (h : a * t % n = 1) : (F a : Fin n) * F t = 1:=by
 rw [← F_mul]
 apply Fin.ext
 rw [val_one hn]
 exact h
def gi (x : Fin n) : Fin n:=pf x (n - 2)
theorem gi_mul (hr : ∃ g : Fin n,Root g) (hn : 1 < n) {x : Fin n} (h : x ≠ 0) : x * gi x = 1:=by
 obtain ⟨g,hg⟩:=hr
 exact ziq hg hn h
theorem gi_of (hr : ∃ g : Fin n,Root g) (hn : 1 < n) {x t : Fin n} (h : x * t = 1) : t = gi x:=by
 have hx : x ≠ 0:=by
  rintro rfl
  have e : (0 : Fin n) * t = 0:=by grobner
  rw [e] at h
  have h2:=congrArg Fin.val h
  rw [Fin.val_zero,val_one hn] at h2
  exact absurd h2 (by decide)
 exact uniq_inv h (gi_mul hr hn hx)
end
section
variable (n : Nat) [NeZero n]
def iG (a : Nat) : Nat:=(gi (F a : Fin n)).val
theorem iG_lt (a : Nat) : iG n a < n:=(gi (F a : Fin n)).isLt
theorem iG_of (hr : ∃ g : Fin n,Root g) (hn : 1 < n) {a t : Nat} (ht : t < n) (h : a * t % n = 1) : t = iG n a:=by
 have e2:=congrArg Fin.val (gi_of hr hn (F_mul_one hn h))
 rw [F_vlt ht] at e2
 exact e2
omit [NeZero n] in
theorem gcd_of (hp : ∀ d,d ∣ n → d = 1 ∨ d = n) {a : Nat} (h0 : a ≠ 0) (h : a < n) : Nat.gcd a n = 1:=by
 rcases hp _ (Nat.gcd_dvd_right a n) with h1 | h1
 ·
  exact h1
 ·
  exfalso
  have h2:=Nat.gcd_dvd_left a n
  rw [h1] at h2
  have h3:=Nat.le_of_dvd (Nat.pos_of_ne_zero h0) h2
  omega
end
theorem gcd_nn {a : Nat} (h0 : a ≠ 0) (h : a < nn) : Nat.gcd a nn = 1:=gcd_of nn nn_pr.2 h0 h
/-! ### multiples -/
/-! ### signatures -/
def rOf (k : Nat) : Nat:=pX (grp.mul k base).1 % nn
def sOf (d e k : Nat) : Nat:=iG nn k * ((e % nn + rOf k * d % nn) % nn) % nn
def inR (x : Nat) : Bool:=decide (x ≠ 0) && decide (x < nn)
theorem inR_iff (x : Nat) : inR x = true ↔ x ≠ 0 ∧ x < nn:=by simp [inR]
end Go.Proofs.YtedehdbajiaaiaaGreatDoor.Pt
namespace Go.Proofs.YtedehdbajiaaiaaGreatDoor
open Go.RowKit
open Go.Value renaming int → vI
open Go.IntKind renaming u64 → vU
open Go.Act renaming put → aP
open List renaming setIfInBounds_toArray → lA, set_cons_zero → lZ, set_cons_succ → lS
/-! ### points -/
theorem base_x : Pt.pX Pt.base.1 = Pt.gx ∧ Pt.pY Pt.base.1 = Pt.gy ∧ Pt.pFar Pt.base.1 = false:=by decide +kernel
theorem rbase_is (w : World) : Calls Tryz.prog 34 #[] w fun e w' => e = .returned (qv Pt.gx Pt.gy false) ∧ Ext w w':=rbase_calls w
theorem rmulq_is {K : Nat} (hK : K < top) {p q : Pt.Q} (hq : q = Pt.grp.mul K p) (w : World) : Calls Tryz.prog 33 #[nv K,qv (Pt.pX p.1) (Pt.pY p.1) (Pt.pFar p.1)] w fun e w' => e = .returned (qv (Pt.pX q.1) (Pt.pY q.1) (Pt.pFar q.1)) ∧ Ext w w':=by
 subst hq; exact rtimes_calls K hK p w
theorem rmulb_is {K : Nat} (hK : K < top) {q : Pt.Q} (hq : q = Pt.grp.mul K Pt.base) (w : World) : Calls Tryz.prog 33 #[nv K,qv Pt.gx Pt.gy false] w fun e w' => e = .returned (qv (Pt.pX q.1) (Pt.pY q.1) (Pt.pFar q.1)) ∧ Ext w w':=by
 have h:=rmulq_is hK hq w
 rwa [base_x.1,base_x.2.1,base_x.2.2] at h
theorem zgb {X : Nat} {r : Bool} (h : mayB X = r) (hX : X < top) (w : World) : Calls Tryz.prog 12 #[nv X] w fun e w' => e = .returned (.bool r) ∧ Ext w w':=by
 subst h; exact may_calls X hX w
/-! ### numbers modulo n -/
theorem nn_1 : 1 < Pt.nn:=Pt.nn_one
theorem nn_pos : 0 < Pt.nn:=Nat.lt_trans Nat.zero_lt_one nn_1
theorem mod_nn {M X : Nat} (h : M = X % Pt.nn) : M < Pt.nn:=by rw [h]; exact Nat.mod_lt _ nn_pos
theorem zcn {M X : Nat} (h : M = X % Pt.nn) : M < top:=Nat.lt_trans (mod_nn h) zcf
theorem mul_top {M X Y : Nat} (h : M = X * Y % Pt.nn) : M < top:=zcn h
theorem inv_nn {t S : Nat} (h : t = Pt.iG Pt.nn S) : t < Pt.nn:=by rw [h]; exact Pt.iG_lt Pt.nn S
theorem inv_top {t S : Nat} (h : t = Pt.iG Pt.nn S) : t < top:=Nat.lt_trans (inv_nn h) zcf
theorem zhw {X : Nat} (h : mayB X = true) : X < Pt.nn:=((Pt.inR_iff X).1 h).2
theorem may_ne {X : Nat} (h : mayB X = true) : X ≠ 0:=((Pt.inR_iff X).1 h).1
theorem rinn_is {X M : Nat} (hM : M = X % Pt.nn) (hX : X < top) (w : World) : Calls Tryz.prog 35 #[nv X,nv Pt.nn] w fun e w' => e = .returned (nv M) ∧ Ext w w':=by
 subst hM; exact gin_calls X Pt.nn hX nn_1 zcf w
theorem rmuln_is {X Y Z : Nat} (hZ : Z = X * Y % Pt.nn) (hX : X < Pt.nn) (hY : Y < top) (w : World) : Calls Tryz.prog 79 #[nv X,nv Y,nv Pt.nn] w fun e w' => e = .returned (nv Z) ∧ Ext w w':=by
 subst hZ; exact gmul_calls X Y Pt.nn hX hY zcf w
theorem raddn_is {X Y Z : Nat} (hZ : Z = (X + Y) % Pt.nn) (hX : X < Pt.nn) (hY : Y < Pt.nn) (w : World) : Calls Tryz.prog 38 #[nv X,nv Y,nv Pt.nn] w fun e w' => e = .returned (nv Z) ∧ Ext w w':=by
 subst hZ; exact zei X Y Pt.nn hX hY zcf w
theorem rinvn_is {X t : Nat} (h0 : X ≠ 0) (hX : X < Pt.nn) (ht : t = Pt.iG Pt.nn X) (w : World) : Calls Tryz.prog 36 #[nv X,nv Pt.nn] w fun e w' => e = .returned (.tuple #[nv t,.bool true]) ∧ Ext w w':=by
 refine (zjh X Pt.nn hX nn_1 (by decide +kernel) zcf w).mono ?_
 rintro e w' ⟨y,hy,hi,rfl,hb⟩
 have hg:=Pt.gcd_nn h0 hX
 have e1 : y = t:=by rw [ht]; exact Pt.iG_of Pt.nn Pt.nn_root Pt.nn_one hy (hi hg)
 rw [hg,e1]
 exact ⟨rfl,hb⟩
theorem rofd_is {y : Nat → Nat} {X : Nat} (hy : ∀ j,y j < 256) (hX : X = num32 y) {g : Nat} (w : World) (hb : w.heap[g]? = some (.cells (dgc y) 43 (0,0))) : Calls Tryz.prog 68 #[.slice (some ⟨g,0,none⟩) 32 32] w fun e w' => e = .returned (nv X) ∧ Ext w w':=by
 subst hX
 exact rof_some g 0 32 32 y hy (by decide) w (Array.getElem?_eq_some_iff.1 hb).1 (fun j hj => by rw [Nat.zero_add,cell_of_row w g j _ _ _ hb]; exact zcx _ hj)
theorem vmul_calls {X Y Z : Nat} (hZ : Z = X * Y % Pt.nn) (hX : X < Pt.nn) (hY : Y < top) (w : World) :
  Calls Tryz.prog 37 #[nv X,nv Y] w fun e w' => e = .returned (nv Z) ∧ Ext w w':=by
 have kZ:=veil hZ
 have kX:=veil hX
 have kY:=veil hY
 clear hY hX hZ
 unfold nv nc
 go_enter Tryz.func37,Tryz.ntmps37
 go_upto_region 1 with (fail)
 refine zek fun w1 hx b0 b1 b2 => ?_
 have b0 : w1.heap[w.heap.size]? = some (.cells (nc X) 26 (0,0)):=b0
 have b1 : w1.heap[w.heap.size + 1]? = some (.cells (nc Y) 26 (0,0)):=b1
 refine' zbx (m:=4) (A:=_) 4 (by kernel_rfl) (by kernel_rfl) (by kernel_rfl) ?h1 ?h2
 case h1 =>
  refine zaa (nv X) rfl (zad rfl rfl b0 rfl uN rfl (iN _)) ?_
  refine zaa (nv Y) rfl (zad rfl rfl b1 rfl uN rfl (iN _)) ?_;simp only [aP,lA,lZ,lS]
  refine zaa (nv Pt.nn) rfl (zam (args:=[]) rfl rfl (fun W => zae Tryz.func31 rfl rfl _ W) (fun W hW => nn_is W)) ?_
  refine zaa (nv Z) rfl (zam (args:=[nv X,nv Y,nv Pt.nn]) rfl rfl (fun W => zae Tryz.func79 rfl rfl _ W) (fun W hW => rmuln_is kZ.out kX.out kY.out W)) ?_;simp only [aP,lA,lZ,lS]
  exact zan
 refine zfp _ rfl rfl rfl rfl rfl (by kernel_rfl) (by kernel_rfl) rfl rfl rfl b2 (iN _) rfl (zbd _) ?_
 intro w2 hB hb
 refine NoPanic.normal ?_
 go_wp2
 exact bodyPost_ret (results_cell_row rfl _ _ (w.heap.size + 1 + 1) 26 (nc Z) (0,0) _ rfl hb Tryz.underlying26 rfl (by kernel_rfl)) rfl ⟨rfl,hx.new hB (by omega)⟩
theorem vnum_calls (y : Nat → Nat) (hy : ∀ j,y j < 256) {X M : Nat} (hX : X = num32 y) (hM : M = X % Pt.nn) (w : World) :
  Calls Tryz.prog 39 #[dgv y] w fun e w' => e = .returned (nv M) ∧ Ext w w':=by
 have ky:=veil hy
 have kX:=veil hX
 have kM:=veil hM
 clear hM hX hy
 unfold nv nc dgv dgc
 go_enter Tryz.func39,Tryz.ntmps39
 go_upto_region 1 with (fail)
 refine zdy fun w1 hx b0 b1 => ?_
 have b0 : w1.heap[w.heap.size]? = some (.cells (dgc y) 43 (0,0)):=b0
 refine' zaq (m:=4) (A:=_) (by kernel_rfl) ?h1 ?h2
 case h1 =>
  refine zaa (.slice (some ⟨w.heap.size,0,none⟩) 32 32) rfl (made_slice rfl rfl (sliceD _ ·)) ?_
  refine zaa (nv X) rfl (zam (args:=[.slice (some ⟨w.heap.size,0,none⟩) 32 32]) rfl rfl (fun W => zae Tryz.func68 rfl rfl _ W) (fun W hW => rofd_is ky.out kX.out W (hW.block b0))) ?_;simp only [aP,lA,lZ,lS]
  refine zaa (nv Pt.nn) rfl (zam (args:=[]) rfl rfl (fun W => zae Tryz.func31 rfl rfl _ W) (fun W hW => nn_is W)) ?_
  refine zaa (nv M) rfl (zam (args:=[nv X,nv Pt.nn]) rfl rfl (fun W => zae Tryz.func35 rfl rfl _ W) (fun W hW => rinn_is kM.out (by rw [kX.out]; exact zhu ky.out) W)) ?_;simp only [aP,lA,lZ,lS]
  exact zan
 refine zbr _ rfl rfl rfl rfl rfl rfl b1 (iN _) rfl (zbd _) ?_
 intro w2 hB hb
 go_wp2
 exact bodyPost_ret (results_cell_row rfl _ _ (w.heap.size + 1) 26 (nc M) (0,0) _ rfl hb Tryz.underlying26 rfl (by kernel_rfl)) rfl ⟨rfl,hx.new hB (by omega)⟩
def cellsN : List Nat → List Value
 | [] => []
 | x :: xs => (nc x).toList ++ cellsN xs
theorem zgi : ∀ (xs ys : List Nat),cellsN (xs ++ ys) = cellsN xs ++ cellsN ys
 | [],ys => rfl
 | x :: xs,ys => by
  show (nc x).toList ++ cellsN (xs ++ ys) = ((nc x).toList ++ cellsN xs) ++ cellsN ys
  rw [zgi xs ys,List.append_assoc]
theorem cellsN_at : ∀ (xs : List Nat) (i : Nat) (x : Nat),xs[i]? = some x → ((cellsN xs).drop (i * 4)).take 4 = (nc x).toList
 | [],i,x,h => by simp at h
 | y :: xs,0,x,h => by
  obtain rfl : y = x:=by simpa using h
  rfl
 | y :: xs,i + 1,x,h => by
  have h1:=cellsN_at xs i x (by simpa using h)
  have e : (i + 1) * 4 = (nc y).toList.length + i * 4:=by
   show _ = 4 + _
   omega
  show (((nc y).toList ++ cellsN xs).drop ((i + 1) * 4)).take 4 = _
  rw [e,← List.drop_drop,List.drop_left,h1]
def OwnN (w : World) (base : Nat) (v : Value) (xs : List Nat) : Prop:=w.ownsRow base 26 4 v xs.length (cellsN xs)
section
variable {w w' : World} {base : Nat} {v : Value} {xs : List Nat}
theorem OwnN.nil (w : World) (base : Nat) : OwnN w base (.slice none 0 0) []:=World.ownsRow_nil _ _ _ _
theorem OwnN.form (o : OwnN w base v xs) : ∃ A c,v = .slice A xs.length c ∧ xs.length ≤ c:=by
 rcases o.2 with ⟨h,h0⟩ | ⟨g,cap,cur,h,_,_,hn,_⟩
 ·
  exact ⟨none,0,by rw [h,h0],by omega⟩
 ·
  exact ⟨_,cap,h,hn⟩
theorem OwnN.lt (o : OwnN w base v xs) {k : Nat} (hk : v.ownBlock = some k) : base ≤ k ∧ k < w.heap.size:=World.ownsRow.lt o k hk
theorem OwnN.keep (o : OwnN w base v xs) (h : ∀ k,v.ownBlock = some k → w'.heap[k]? = w.heap[k]?) : OwnN w' base v xs:=by
 refine ⟨o.1,?_⟩
 rcases o.2 with hn | ⟨g,cap,cur,rfl,hbg,hh,rest⟩
 ·
  exact .inl hn
 ·
  exact .inr ⟨g,cap,cur,rfl,hbg,(h g rfl).trans hh,rest⟩
theorem OwnN.ext (o : OwnN w base v xs) (h : Ext w w') : OwnN w' base v xs:=o.keep fun k hk => Below.block h k (o.lt hk).2
theorem OwnN.but {r : Nat} (o : OwnN w base v xs) (h : But r w w') (hr : r < base) : OwnN w' base v xs:=o.keep fun k hk => h.block k (o.lt hk).2 (by have:=(o.lt hk).1; intro e; injection e; omega)
theorem OwnN.base_le {base' : Nat} (o : OwnN w base v xs) (hb : base' ≤ base) : OwnN w base' v xs :=
 ⟨o.1,o.2.elim .inl fun ⟨g,cap,cur,hv,hg,r⟩ => .inr ⟨g,cap,cur,hv,Nat.le_trans hb hg,r⟩⟩
theorem OwnN.at (o : OwnN w base v xs) {i : Nat} (hi : i < xs.length) : ∃ g cap,v = .slice (some ⟨g,0,none⟩) xs.length cap ∧ base ≤ g ∧ g < w.heap.size ∧ w.rangeAt g (i * 4) (nc (xs[i]'hi)).toList:=by
 rcases o.2 with ⟨_,h0⟩ | ⟨g,cap,cur,rfl,hbg,hh,hn,hm,hs,ht⟩
 ·
  omega
 ·
  refine ⟨g,cap,rfl,hbg,(Array.getElem?_eq_some_iff.1 hh).1,fun j u hu => ?_⟩
  have hj : j < 4:=by have:=(List.getElem?_eq_some_iff.1 hu).1; exact this
  rw [cell_of_row w g _ cur _ _ hh]
  have h1:=cellsN_at xs i _ (List.getElem?_eq_getElem hi)
  rw [← h1,List.getElem?_take_of_lt hj,List.getElem?_drop,← ht,List.getElem?_take_of_lt (by omega)] at hu
  simpa using hu
end
theorem infoN32 : (Tryz.prog.info? 26).map (fun i => (i.zero,i.size,i.bytes)) = some (some (.agg #[vI vU 0,vI vU 0,vI vU 0,vI vU 0]),4,32):=by kernel_rfl
theorem zhz {i : Option TypeInfo} {z : Value} {n b : Nat} (h : i.map (fun i => (i.zero,i.size,i.bytes)) = some (some z,n,b)) : ∃ j,i = some j ∧ j.zero = some z ∧ j.size = n ∧ j.bytes = b:=by
 cases i with
 | none => simp at h
 | some j =>
  simp only [Option.map_some,Option.some.injEq,Prod.mk.injEq] at h
  exact ⟨j,rfl,h.1,h.2.1,h.2.2⟩
theorem wpl_append_num {w : World} {ops : Array Oper} {rest : List Oper} {o : Oper} {a : Act} {Q : Exit → Act → World → Prop} (hgd : o.guard = none) (s x : Operand)
  (ho : o.op = .call { callee:=.builtin .append,args:=#[s,x],argTypes:=#[73,73] })
  (base : Nat) (v : Value) (xs : List Nat) (hs : a.eval s = v) (hown : OwnN w base v xs) (g X : Nat) (hx : a.eval x = .slice (some ⟨g,0,none⟩) 1 1) (hg : w.heap[g]? = some (.cells (nc X) 26 (0,0)))
  (hn : xs.length ≤ 1000) (hbase : base ≤ w.heap.size)
  (h : ∀ v' w',OwnN w' base v' (xs ++ [X]) → w.grownBy w' v.ownBlock → wpList Tryz.prog ops Q rest (a.put o.dst v') w') : wpList Tryz.prog ops Q (o :: rest) a w:=by
 obtain ⟨i,hi,hz,hsz,hby⟩:=zhz infoN32
 refine wpList_plain hgd fun K hK => ?_
 obtain ⟨v',w',hr,h2,h3,_,_⟩:=run_append_own_at (P:=Tryz.prog) w base 73 o.type 26 i _ 4 32 Tryz.underlying73 hi hz hsz hby rfl (by decide) v xs.length (cellsN xs) hown ⟨g,0,none⟩ 1 1 (nc X).toList rfl
  (fun j u hu => by
   rw [Addr.add_mid,Nat.zero_add,cell_of_row w g j (nc X) _ _ hg]
   simpa using hu)
  (fun u hu => (Array.all_eq_true_iff_forall_mem.1 (zbd X)) u (by simpa using hu)) (by unfold maxLen; omega) (by omega) hbase
 unfold Oper.wp execOp
 simp only [ho,resolve,invoke,builtin,Sem.run_bind,Sem.run_pure,Result.andThen_ok,List.map_toArray,List.map_cons,List.map_nil,hs,hx,hr]
 refine hK _ _ (h v' w' ?_ h3)
 unfold OwnN
 rw [zgi,List.length_append]
 have e : cellsN [X] = (nc X).toList:=List.append_nil _
 rw [e]
 exact h2
def RSrc (W : World) (v : Value) (y : Nat → Nat) (ob : Option Nat) : Prop :=
 ∃ b o c,v = .slice (some ⟨b,o,none⟩) 32 c ∧ b < W.heap.size ∧ ob ≠ some b ∧ ∀ j,j < 32 → W.cell? ⟨b,o + j,none⟩ = some (.int .u8 (y j : Nat))
section
variable {W W' : World} {v : Value} {y : Nat → Nat} {ob : Option Nat}
theorem RSrc.ext (h : RSrc W v y ob) (k : Ext W W') : RSrc W' v y ob:=by
 obtain ⟨b,o,c,e,hb,hne,hc⟩:=h
 exact ⟨b,o,c,e,Nat.lt_of_lt_of_le hb (Below.size k),hne,fun j hj => (Below.cell k (p:=⟨b,o + j,none⟩) hb).trans (hc j hj)⟩
theorem RSrc.grown (h : RSrc W v y ob) (k : W.grownBy W' ob) {ob' : Option Nat} (ho : ob' = ob ∨ ob' = some W.heap.size) : RSrc W' v y ob':=by
 obtain ⟨b,o,c,e,hb,hne,hc⟩:=h
 refine ⟨b,o,c,e,Nat.lt_of_lt_of_le hb k.size,?_,fun j hj => (World.cell?_of_block (a:=⟨b,o + j,none⟩) (k.block b hb (Ne.symm hne))).trans (hc j hj)⟩
 rcases ho with rfl | rfl
 ·
  exact hne
 ·
  intro e; injection e; omega
theorem RSrc.src (h : RSrc W v y ob) : ∃ A c,v = .slice A 32 c ∧ Src W A 32 y W.heap.size:=by
 obtain ⟨b,o,c,e,hb,_,hc⟩:=h
 exact ⟨_,c,e,.inr ⟨b,o,rfl,hb,by omega,hc⟩⟩
end
theorem cat_rest (v : Nat → Nat) : cat v 32 (fun j => v (32 + j)) = v:=by
 funext i
 unfold cat
 split
 ·
  rfl
 ·
  show v (32 + (i - 32)) = v i
  congr 1; omega
theorem zgw (RS : RSum) (s : KV) (hs : s.Ok) (vk vv : Value) (ob : Option Nat) (w : World) (hk : RSrc w vk s.k ob) (hv : RSrc w vv s.v ob) (ho : ∀ b,ob = some b → b < w.heap.size) :
  Calls Tryz.prog 70 #[vk,vv,.slice none 0 0] w fun e w' => ∃ r,e = .returned r ∧ RSrc w' r (nb s.k 32 s.v 32) ob ∧ Ext w w':=by
 obtain ⟨A,cA,rfl,hA⟩:=hk.src
 obtain ⟨B,cB,rfl,hB⟩:=hv.src
 refine (code_calls RS A B none cA cB 0 0 s.k s.v (fun j => s.v (32 + j)) hs.k hs.v (fun j => hs.v _) (by decide) w hA hB (.inl rfl)).mono ?_
 rintro e w' ⟨g,rfl,hg,hr,hb⟩
 rw [cat_rest] at hr
 exact ⟨_,rfl,⟨g,0,32,rfl,hr.lt,fun e => by have:=ho g e; omega,fun j hj => by rw [Nat.zero_add]; exact hr.cell hj⟩,hb⟩
theorem code_tx (RS : RSum) (s : KV) (hs : s.Ok) (vk vv : Value) (ob : Option Nat) (b : Nat) (hb : b < 256) (t : Nat → Nat) (ht : ∀ j,t j < 256) (m : Nat) (hm : m ≤ 900) (C : Option Addr) (cC : Nat) (w : World)
  (hk : RSrc w vk s.k ob) (hv : RSrc w vv s.v ob) (hC : Src w C (1 + m) (cat (fun _ => b) 1 t) w.heap.size) (ho : ∀ b,ob = some b → b < w.heap.size) :
  Calls Tryz.prog 70 #[vk,vv,.slice C (1 + m) cC] w fun e w' => ∃ r,e = .returned r ∧ RSrc w' r (nb s.k 32 (tx s.v b t) (33 + m)) ob ∧ Ext w w':=by
 obtain ⟨A,cA,rfl,hA⟩:=hk.src
 obtain ⟨B,cB,rfl,hB⟩:=hv.src
 refine (code_calls RS A B C cA cB cC (1 + m) s.k s.v (cat (fun _ => b) 1 t) hs.k hs.v (cat_lt (fun _ => hb) ht) (by omega) w hA hB hC).mono ?_
 rintro e w' ⟨g,rfl,hg,hr,hb⟩
 rw [show 32 + (1 + m) = 33 + m by omega] at hr
 exact ⟨_,rfl,⟨g,0,32,rfl,hr.lt,fun e => by have:=ho g e; omega,fun j hj => by rw [Nat.zero_add]; exact hr.cell hj⟩,hb⟩
theorem wpl_append_num' {w : World} {ops : Array Oper} {rest : List Oper} {o : Oper} {a : Act} {Q : Exit → Act → World → Prop} (hgd : o.guard = none) (s x : Operand)
  (ho : o.op = .call { callee:=.builtin .append,args:=#[s,x],argTypes:=#[73,73] })
  (base : Nat) (v : Value) (xs : List Nat) (hs : a.eval s = v) (hown : OwnN w base v xs) (g X : Nat) (hx : a.eval x = .slice (some ⟨g,0,none⟩) 1 1) (hg : w.heap[g]? = some (.cells (nc X) 26 (0,0)))
  (hn : xs.length ≤ 1000) (hbase : base ≤ w.heap.size)
  (h : ∀ v' w',OwnN w' base v' (xs ++ [X]) → w.grownBy w' v.ownBlock → (v'.ownBlock = v.ownBlock ∨ v'.ownBlock = some w.heap.size) → wpList Tryz.prog ops Q rest (a.put o.dst v') w') : wpList Tryz.prog ops Q (o :: rest) a w:=by
 obtain ⟨i,hi,hz,hsz,hby⟩:=zhz infoN32
 refine wpList_plain hgd fun K hK => ?_
 obtain ⟨v',w',hr,h2,h3,_,h5⟩:=run_append_own_at (P:=Tryz.prog) w base 73 o.type 26 i _ 4 32 Tryz.underlying73 hi hz hsz hby rfl (by decide) v xs.length (cellsN xs) hown ⟨g,0,none⟩ 1 1 (nc X).toList rfl
  (fun j u hu => by
   rw [Addr.add_mid,Nat.zero_add,cell_of_row w g j (nc X) _ _ hg]
   simpa using hu)
  (fun u hu => (Array.all_eq_true_iff_forall_mem.1 (zbd X)) u (by simpa using hu)) (by unfold maxLen; omega) (by omega) hbase
 unfold Oper.wp execOp
 simp only [ho,resolve,invoke,builtin,Sem.run_bind,Sem.run_pure,Result.andThen_ok,List.map_toArray,List.map_cons,List.map_nil,hs,hx,hr]
 refine hK _ _ (h v' w' ?_ h3 h5)
 unfold OwnN
 rw [zgi,List.length_append]
 have e : cellsN [X] = (nc X).toList:=List.append_nil _
 rw [e]
 exact h2
theorem tx_own {w : World} {base m b : Nat} {v : Value} {t : Nat → Nat} (h : Own w base 5 v (1 + m) (fun j => if j < 1 then .int .u8 (b : Int) else .int .u8 (t (j - 1) : Nat))) : Own w base 5 v (1 + m) (fun j => .int .u8 (cat (fun _ => b) 1 t j : Nat)):=h.congr fun j _ => by
 unfold cat
 split <;> rfl
theorem src_one (w : World) (b : Nat) : Src (w.alloc (.cells #[.int .u8 (b : Int)] 5)) (some ⟨w.heap.size,0,none⟩) (1 + 0) (cat (fun _ => b) 1 none0) (w.alloc (.cells #[.int .u8 (b : Int)] 5)).heap.size :=
 .inr ⟨w.heap.size,0,rfl,by simp,by simp,fun j hj => by
  obtain rfl : j = 0:=by omega
  rw [World.cell?_alloc_mark]; rfl⟩
theorem part_bytes (X m : Nat) : pt X m / 256 = byv X (2 * m + 1) ∧ pt X m % 256 = byv X (2 * m):=by
 have h0:=dg_byte X 2 m 0 (by omega)
 have h1:=dg_byte X 2 m 1 (by omega)
 rw [← w16_bytes] at h0 h1
 have hl:=dg_lt zii X m
 unfold pt byv
 rw [← h1,← show dg w16 X m / 256 ^ 0 % 256 = dg 256 X (2 * m) from h0]
 generalize dg w16 X m = D at *
 unfold w16 at hl
 simp only [Nat.pow_zero,Nat.pow_one,Nat.div_one]
 omega
theorem heap_alloc_drew (w : World) (o : Obj) : (w.alloc o).drew.heap[w.heap.size]? = some o:=heap_alloc_new w o
def bsv (X j : Nat) : Value:=.int .u8 (byv X (31 - j))
theorem bsL_step (X m : Nat) (hm : m < 16) : (List.range (32 - 2 * (m + 1))).map (bsv X) ++ [.int .u8 (byv X (2 * m + 1)),.int .u8 (byv X (2 * m))] = (List.range (32 - 2 * m)).map (bsv X):=by
 rw [show 32 - 2 * m = (32 - 2 * (m + 1)) + 1 + 1 by omega,List.range_succ,List.range_succ,List.map_append,List.map_append,List.append_assoc]
 simp only [List.map_cons,List.map_nil,bsv,List.cons_append,List.nil_append]
 rw [show 31 - (32 - 2 * (m + 1)) = 2 * m + 1 by omega,show 31 - (32 - 2 * (m + 1) + 1) = 2 * m by omega]
theorem conv_hi (z : Int) (h0 : 0 ≤ z) (h1 : z ≤ 65535) : IntKind.u8.wrap (IntKind.i64.wrap (z.tdiv 256)) = z / 256:=by
 have e : z.tdiv 256 = z / 256:=Int.tdiv_eq_ediv_of_nonneg h0
 have h2 : 0 ≤ z / 256:=by omega
 have h3 : z / 256 ≤ 255:=by omega
 rw [e]
 generalize z / 256 = q at *
 rw [IntWalk.i64_in q ⟨by omega,by omega⟩,IntKind.wrap_u8]
 exact Int.emod_eq_of_lt h2 (by omega)
theorem conv_lo (z : Int) (h0 : 0 ≤ z) : IntKind.u8.wrap (z.tmod 256) = z % 256:=by
 have e : z.tmod 256 = z % 256:=Int.tmod_eq_emod_of_nonneg h0
 rw [e,IntKind.wrap_u8]
 exact Int.emod_emod_of_dvd z (Int.dvd_refl 256)
theorem none_yet (X : Nat) (W : World) (base : Nat) : W.ownsRow base 5 1 (.slice none 0 0) (32 - 2 * 16) ((List.range (32 - 2 * 16)).map (bsv X)):=by
 simp only [show 32 - 2 * 16 = 0 from by omega,List.range_zero,List.map_nil]
 exact World.ownsRow_nil _ _ _ _
theorem zhh (X : Nat) (w : World) :
  Calls Tryz.prog 69 #[.agg #[vI vU (wd X 0),vI vU (wd X 1),vI vU (wd X 2),vI vU (wd X 3)]] w fun e w' => ∃ g cap,e = .returned (.slice (some ⟨g,0,none⟩) 32 cap) ∧ 32 ≤ cap ∧ w.heap.size ≤ g ∧ Own w' w.heap.size 5 (.slice (some ⟨g,0,none⟩) 32 cap) 32 (bsv X) ∧ Below w.heap.size w w':=by
 obtain ⟨i0,hi,hz0,hz1,hz2⟩:=info_parts infoByte
 have hB0 : Below w.heap.size w (w.alloc (.cells #[vI vU (wd X 0),vI vU (wd X 1),vI vU (wd X 2),vI vU (wd X 3)] 26)):=(Below.refl _ _).alloc (by simp) _
 go_enter Tryz.func69,Tryz.ntmps69
 go_wp2_with fail
 refine (zgc X _).mono ?_
 rintro e w1 ⟨g1,cap1,rfl,hg1,hp1,hb1⟩
 have hB1:=hB0.trans (hb1.mono (by simp))
 have hl1:=hp1.lt
 have hsz:=hB1.size
 clear hB0 hb1 hg1
 go_wp2
 go_loopw [4,5] (fun v i wr => ∃ k : Nat,k ≤ 16 ∧ i = .int .i64 ((k : Int) - 1) ∧ wr.ownsRow w1.heap.size 5 1 v (32 - 2 * k) ((List.range (32 - 2 * k)).map (bsv X)) ∧ Pre wr g1 3 16 (ptv X) ∧ Below w.heap.size w wr ∧ w1.heap.size ≤ wr.heap.size)
  (fun _ i _ => (intOf i + 1).toNat)
 case atStart => exact ⟨16,by omega,rfl,none_yet X w1 _,hp1,hB1,Nat.le_refl _⟩
 case round =>
  clear hp1 hB1
  obtain ⟨k,hk,hii,hown,hp,hbel,hsz2⟩:=hrel
  cases k with
  | zero =>
   subst hii
   go_wp2
   go_ret
   have ho : Own wr w1.heap.size 5 _ 32 (bsv X):=hown
   obtain ⟨g,cap,rfl,hc,hg,_⟩:=ho.pre (by omega)
   exact ⟨g,cap,rfl,hc,by omega,ho.base_le hsz,hbel⟩
  | succ m =>
   obtain rfl : _ = Value.int .i64 (m : Int):=hii.trans (by congr 1; omega)
   have hm : m < 16:=by omega
   have c1:=hp.cell hm
   simp only [ptv] at c1
   clear hii
   go_wp2
   have hm0 : (0 : Int) ≤ (m : Int):=by omega
   have hm1 : (m : Int) < 16:=by omega
   have l1:=pt_lo X m
   have u1 : pt X m ≤ 65535:=by have:=pt_lt X m; omega
   obtain ⟨q1,q2⟩:=part_bytes X m
   have E1 : IntKind.u8.wrap (IntKind.i64.wrap ((pt X m).tdiv 256)) = byv X (2 * m + 1):=(conv_hi _ l1 u1).trans q1
   have E2 : IntKind.u8.wrap ((pt X m).tmod 256) = byv X (2 * m):=(conv_lo _ l1).trans q2
   clear q1 q2
   as_aux_lemma =>
   go_region_held3 (fun w' => w'.cell? ⟨g1,m,none⟩ = some (.int .i64 (pt X m)))
    (first
     | go_keep
     | exact (hgrow.cell_far ⟨g1,m,none⟩ ((hp.alloc _).drew).lt (fun e => by have h2 : w1.heap.size ≤ g1:=(hown.lt g1 e.symm).1; omega)).trans (((hp.alloc _).drew).cell hm))
    ((refine step_append_lies _ (by rfl) _ _ _ (by rfl) w1.heap.size 5 i0 _ 1 1 Tryz.underlying29 hi hz0 hz1 hz2 rfl (by omega) _ _ _ (by rfl) ((hown.alloc _).drew)
       ⟨wr.heap.size,0,none⟩ 2 2 [.int .u8 (byv X (2 * m + 1)),.int .u8 (byv X (2 * m))] (by rfl) (by rfl) (World.news_of_block (cs:=#[.int .u8 (byv X (2 * m + 1)),.int .u8 (byv X (2 * m))]) (t:=5) (fr:=(0,0)) (heap_alloc_drew wr _)) (by simp [Value.oneCell'])
       (by omega) (by unfold maxLen; omega) (by omega) (by simp; omega) (wr.heap.size + 1) (by simp) ?_; intro gg cap w4 hown1 hgrow hat hlt))
   all_goals
    go_wp2
    go_roundw
    have hsz5 : w1.heap.size ≤ w4.heap.size:=by
     have h6:=hgrow.size
     have h5 : wr.heap.size ≤ (wr.alloc (.cells #[.int .u8 (byv X (2 * m + 1)),.int .u8 (byv X (2 * m))] 5)).drew.heap.size:=by
      show wr.heap.size ≤ (wr.alloc _).heap.size
      simp
     omega
    case rel => exact ⟨m,by omega,rfl,by rw [bsL_step X m hm,show 32 - 2 * (m + 1) + 2 = 32 - 2 * m by omega] at hown1; rw [show 32 - 2 * (m + 1) + 2 = 32 - 2 * m by omega]; exact hown1,(hp.alloc _).drew.of_block (hgrow.block g1 ((hp.alloc _).drew).lt (fun e => by have h2 : w1.heap.size ≤ g1:=(hown.lt g1 e.symm).1; omega)),((hbel.alloc (by omega) _).drew).grown hgrow (by show w.heap.size ≤ (wr.alloc _).heap.size; simp; omega) (fun k e => by have:=(hown.lt _ e).1; omega),hsz5⟩
    case measure => simp [intOf]
end Go.Proofs.YtedehdbajiaaiaaGreatDoor
