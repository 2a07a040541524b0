/-
  Of Q10 Q12 G6 G7a PS S0 S1 V9 S3 S4.
-/
import Derived.Deep.Cut
import Derived.Deep.CutRange
import Derived.Deep.LoopGhost
import Derived.Deep.MidRow
import Derived.Laws.OwnMore
import Derived.Deep.AppendLies
import Derived.Deep.RegionHeld3
import Derived.Test.YthlbemnbmbmjhaaGreatDoorZC12
import Derived.Test.YthlbemnbmbmjhaaGreatDoorZC5
import Derived.Test.YthlbemnbmbmjhaaGreatDoorZC4
import Derived.Test.YthlbemnbmbmjhaaGreatDoorZC11
import Derived.Test.YthlbemnbmbmjhaaGreatDoorZC6
import Derived.Test.YthlbemnbmbmjhaaGreatDoorZC10
import Derived.Test.YthlbemnbmbmjhaaGreatDoorZC9
import Derived.Test.YthlbemnbmbmjhaaGreatDoorZC7
import Derived.Test.YthlbemnbmbmjhaaGreatDoorZC2
set_option maxRecDepth 1000000
set_option maxHeartbeats 20000000
namespace Go.Proofs.YthlbemnbmbmjhaaGreatDoor
open Go.RowKit
open Go.Value renaming int → vI
open Go.IntKind renaming u64 → vU
open Go.Act renaming put → aP
open List renaming setIfInBounds_toArray → lA, set_cons_zero → lZ, set_cons_succ → lS
theorem bl_le {X : Nat} (hX : X < top) : bitLen X ≤ 256:=by
 unfold bitLen
 split
 ·
  omega
 ·
  rename_i h
  have:=(Nat.log2_lt h).2 (show X < 2 ^ 256 by rw [← top_two]; exact hX)
  omega
theorem bl_div (X : Nat) : X / 2 ^ bitLen X = 0:=Nat.div_eq_of_lt (bitLen_spec X).1
theorem far_row {w : World} {b t : Nat} (hb : b = w.heap.size) : (w.alloc (.cells #[vI vU 0,vI vU 0,vI vU 0,vI vU 0,vI vU 0,vI vU 0,vI vU 0,vI vU 0,.bool true] t)).rowIs b t 9 (pc 0 0 true):=zae (n:=9) hb rfl fun i hi => by
 have h:=arr9 0 0 true i hi
 simp only [wd_nil] at h
 exact h
theorem zgz (K m : Nat) (q : Pt.Q) : Pt.grp.mul (K / 2 ^ m) q = if bit K m = true then Pt.grp.op (Pt.grp.op (Pt.grp.mul (K / 2 ^ (m + 1)) q) (Pt.grp.mul (K / 2 ^ (m + 1)) q)) q else Pt.grp.op (Pt.grp.mul (K / 2 ^ (m + 1)) q) (Pt.grp.mul (K / 2 ^ (m + 1)) q):=by
 rw [Pt.mul_top]
 have hb : (bit K m = true) = (K / 2 ^ m % 2 = 1):=by unfold bit; simp
 simp only [hb]
theorem rtimes_calls (K : Nat) (hKt : K < top) (q : Pt.Q) (w : World) :
  Calls Tryz.prog 98 #[.agg #[vI vU (wd K 0),vI vU (wd K 1),vI vU (wd K 2),vI vU (wd K 3)],.agg #[vI vU (wd (Pt.pX q.1) 0),vI vU (wd (Pt.pX q.1) 1),vI vU (wd (Pt.pX q.1) 2),vI vU (wd (Pt.pX q.1) 3),vI vU (wd (Pt.pY q.1) 0),vI vU (wd (Pt.pY q.1) 1),vI vU (wd (Pt.pY q.1) 2),vI vU (wd (Pt.pY q.1) 3),.bool (Pt.pFar q.1)]] w fun e w' => e = .returned (.agg #[vI vU (wd (Pt.pX (Pt.grp.mul K q).1) 0),vI vU (wd (Pt.pX (Pt.grp.mul K q).1) 1),vI vU (wd (Pt.pX (Pt.grp.mul K q).1) 2),vI vU (wd (Pt.pX (Pt.grp.mul K q).1) 3),vI vU (wd (Pt.pY (Pt.grp.mul K q).1) 0),vI vU (wd (Pt.pY (Pt.grp.mul K q).1) 1),vI vU (wd (Pt.pY (Pt.grp.mul K q).1) 2),vI vU (wd (Pt.pY (Pt.grp.mul K q).1) 3),.bool (Pt.pFar (Pt.grp.mul K q).1)]) ∧ Below w.heap.size w w':=by
 have hK : (((w.alloc (.cells #[vI vU (wd K 0),vI vU (wd K 1),vI vU (wd K 2),vI vU (wd K 3)] 27)).alloc (.cells #[vI vU (wd (Pt.pX q.1) 0),vI vU (wd (Pt.pX q.1) 1),vI vU (wd (Pt.pX q.1) 2),vI vU (wd (Pt.pX q.1) 3),vI vU (wd (Pt.pY q.1) 0),vI vU (wd (Pt.pY q.1) 1),vI vU (wd (Pt.pY q.1) 2),vI vU (wd (Pt.pY q.1) 3),.bool (Pt.pFar q.1)] 29)).alloc (.cells #[vI vU 0,vI vU 0,vI vU 0,vI vU 0,vI vU 0,vI vU 0,vI vU 0,vI vU 0,.bool false] 29)).rowIs w.heap.size 27 4 (fun j => .int .u64 (wd K j)):=((zae (n:=4) rfl rfl (arr4 fun j => .int .u64 (wd K j))).alloc _).alloc _
 have hA : (((w.alloc (.cells #[vI vU (wd K 0),vI vU (wd K 1),vI vU (wd K 2),vI vU (wd K 3)] 27)).alloc (.cells #[vI vU (wd (Pt.pX q.1) 0),vI vU (wd (Pt.pX q.1) 1),vI vU (wd (Pt.pX q.1) 2),vI vU (wd (Pt.pX q.1) 3),vI vU (wd (Pt.pY q.1) 0),vI vU (wd (Pt.pY q.1) 1),vI vU (wd (Pt.pY q.1) 2),vI vU (wd (Pt.pY q.1) 3),.bool (Pt.pFar q.1)] 29)).alloc (.cells #[vI vU 0,vI vU 0,vI vU 0,vI vU 0,vI vU 0,vI vU 0,vI vU 0,vI vU 0,.bool false] 29)).rowIs (w.heap.size + 1) 29 9 (pc (Pt.pX q.1) (Pt.pY q.1) (Pt.pFar q.1)):=(zdj _ _ _ (by simp)).alloc _
 have hR : (((w.alloc (.cells #[vI vU (wd K 0),vI vU (wd K 1),vI vU (wd K 2),vI vU (wd K 3)] 27)).alloc (.cells #[vI vU (wd (Pt.pX q.1) 0),vI vU (wd (Pt.pX q.1) 1),vI vU (wd (Pt.pX q.1) 2),vI vU (wd (Pt.pX q.1) 3),vI vU (wd (Pt.pY q.1) 0),vI vU (wd (Pt.pY q.1) 1),vI vU (wd (Pt.pY q.1) 2),vI vU (wd (Pt.pY q.1) 3),.bool (Pt.pFar q.1)] 29)).alloc (.cells #[vI vU 0,vI vU 0,vI vU 0,vI vU 0,vI vU 0,vI vU 0,vI vU 0,vI vU 0,.bool false] 29)).rowIs (w.heap.size + 1 + 1) 29 9 (pc 0 0 false):=zez (by simp)
 have hB : Below w.heap.size w (((w.alloc (.cells #[vI vU (wd K 0),vI vU (wd K 1),vI vU (wd K 2),vI vU (wd K 3)] 27)).alloc (.cells #[vI vU (wd (Pt.pX q.1) 0),vI vU (wd (Pt.pX q.1) 1),vI vU (wd (Pt.pX q.1) 2),vI vU (wd (Pt.pX q.1) 3),vI vU (wd (Pt.pY q.1) 0),vI vU (wd (Pt.pY q.1) 1),vI vU (wd (Pt.pY q.1) 2),vI vU (wd (Pt.pY q.1) 3),.bool (Pt.pFar q.1)] 29)).alloc (.cells #[vI vU 0,vI vU 0,vI vU 0,vI vU 0,vI vU 0,vI vU 0,vI vU 0,vI vU 0,.bool false] 29)):=(((Below.refl _ _).alloc (by simp) _).alloc (by simp) _).alloc (by simp; omega) _
 have hz : (((w.alloc (.cells #[vI vU (wd K 0),vI vU (wd K 1),vI vU (wd K 2),vI vU (wd K 3)] 27)).alloc (.cells #[vI vU (wd (Pt.pX q.1) 0),vI vU (wd (Pt.pX q.1) 1),vI vU (wd (Pt.pX q.1) 2),vI vU (wd (Pt.pX q.1) 3),vI vU (wd (Pt.pY q.1) 0),vI vU (wd (Pt.pY q.1) 1),vI vU (wd (Pt.pY q.1) 2),vI vU (wd (Pt.pY q.1) 3),.bool (Pt.pFar q.1)] 29)).alloc (.cells #[vI vU 0,vI vU 0,vI vU 0,vI vU 0,vI vU 0,vI vU 0,vI vU 0,vI vU 0,.bool false] 29)).heap.size = w.heap.size + 1 + 1 + 1:=by simp
 have hL : bitLen K ≤ 256:=bl_le hKt
 have hE : K / 2 ^ bitLen K = 0:=bl_div K
 have HT:=veil hKt
 clear hKt
 go_enter Tryz.func98,Tryz.ntmps98
 go_upto_region 1 with (fail)
 generalize (((w.alloc (.cells #[vI vU (wd K 0),vI vU (wd K 1),vI vU (wd K 2),vI vU (wd K 3)] 27)).alloc (.cells #[vI vU (wd (Pt.pX q.1) 0),vI vU (wd (Pt.pX q.1) 1),vI vU (wd (Pt.pX q.1) 2),vI vU (wd (Pt.pX q.1) 3),vI vU (wd (Pt.pY q.1) 0),vI vU (wd (Pt.pY q.1) 1),vI vU (wd (Pt.pY q.1) 2),vI vU (wd (Pt.pY q.1) 3),.bool (Pt.pFar q.1)] 29)).alloc (.cells #[vI vU 0,vI vU 0,vI vU 0,vI vU 0,vI vU 0,vI vU 0,vI vU 0,vI vU 0,.bool false] 29)) = w0 at *
 go_upto_region 2 with (fail)
 have hO : (w0.alloc (.cells #[vI vU 0,vI vU 0,vI vU 0,vI vU 0,vI vU 0,vI vU 0,vI vU 0,vI vU 0,.bool true] 29)).rowIs (w.heap.size + 1 + 1 + 1) 29 9 (pc (Pt.pX (Pt.grp.mul (K / 2 ^ bitLen K) q).1) (Pt.pY (Pt.grp.mul (K / 2 ^ bitLen K) q).1) (Pt.pFar (Pt.grp.mul (K / 2 ^ bitLen K) q).1)):=by
  rw [hE]
  exact far_row hz.symm
 replace hK:=hK.alloc (.cells #[vI vU 0,vI vU 0,vI vU 0,vI vU 0,vI vU 0,vI vU 0,vI vU 0,vI vU 0,.bool true] 29)
 replace hA:=hA.alloc (.cells #[vI vU 0,vI vU 0,vI vU 0,vI vU 0,vI vU 0,vI vU 0,vI vU 0,vI vU 0,.bool true] 29)
 replace hR:=hR.alloc (.cells #[vI vU 0,vI vU 0,vI vU 0,vI vU 0,vI vU 0,vI vU 0,vI vU 0,vI vU 0,.bool true] 29)
 replace hB:=hB.alloc hB.size (.cells #[vI vU 0,vI vU 0,vI vU 0,vI vU 0,vI vU 0,vI vU 0,vI vU 0,vI vU 0,.bool true] 29)
 generalize w0.alloc (.cells #[vI vU 0,vI vU 0,vI vU 0,vI vU 0,vI vU 0,vI vU 0,vI vU 0,vI vU 0,.bool true] 29) = w1 at *
 have HL:=veil hL
 clear hz hE hL
 obtain ⟨k0,k1,k2,k3⟩:=zac hK
 go_wp2_with fail
 refine (rlen_calls K HT.out _).mono ?_
 rintro e w2 ⟨rfl,hb⟩
 clear k0 k1 k2 k3
 replace hK:=zaa hK hb hK.lt
 replace hA:=zaa hA hb hA.lt
 replace hR:=zaa hR hb hR.lt
 replace hO:=zaa hO hb hO.lt
 replace hB:=hB.trans (hb.mono hB.size)
 clear hb
 obtain ⟨N,hN⟩ : ∃ N,N = bitLen K:=⟨_,rfl⟩
 rw [← hN] at hO ⊢
 have hN2 : N ≤ 256:=by rw [hN]; exact HL.out
 clear hN
 go_wp2
 go_loopw [6] (fun v6 wr => ∃ j : Nat,j ≤ 256 ∧ v6 = .int .i64 ((j : Int) - 1) ∧ wr.rowIs w.heap.size 27 4 (fun i => .int .u64 (wd K i)) ∧ wr.rowIs (w.heap.size + 1) 29 9 (pc (Pt.pX q.1) (Pt.pY q.1) (Pt.pFar q.1)) ∧ wr.rowIs (w.heap.size + 1 + 1) 29 9 (pc 0 0 false) ∧ wr.rowIs (w.heap.size + 1 + 1 + 1) 29 9 (pc (Pt.pX (Pt.grp.mul (K / 2 ^ j) q).1) (Pt.pY (Pt.grp.mul (K / 2 ^ j) q).1) (Pt.pFar (Pt.grp.mul (K / 2 ^ j) q).1)) ∧ Below w.heap.size w wr)
  (fun v6 _ => (intOf v6 + 1).toNat)
 case atStart => exact ⟨N,hN2,by go_num,hK,hA,hR,hO,hB⟩
 case round =>
  clear hK hA hR hO hB hN2
  obtain ⟨j,hj,hi,hK,hA,hR,hO,hB⟩:=hrel
  cases j with
  | zero =>
   obtain rfl : _ = Value.int .i64 (-1):=hi.trans (by congr 1)
   have HO:=veil (blk9 hO)
   have HR:=veil (blkOf hR)
   have e1 : Pt.grp.mul (K / 2 ^ 0) q = Pt.grp.mul K q:=by rw [Nat.pow_zero,Nat.div_one]
   rw [e1] at HO
   clear hO hR hi e1
   go_wp2_with (first
    | ((with_reducible refine zas 26 ?_); refine wpList_load_row rfl 29 _ rfl (w.heap.size + 1 + 1 + 1) rfl 29 #[vI vU (wd (Pt.pX (Pt.grp.mul K q).1) 0),vI vU (wd (Pt.pX (Pt.grp.mul K q).1) 1),vI vU (wd (Pt.pX (Pt.grp.mul K q).1) 2),vI vU (wd (Pt.pX (Pt.grp.mul K q).1) 3),vI vU (wd (Pt.pY (Pt.grp.mul K q).1) 0),vI vU (wd (Pt.pY (Pt.grp.mul K q).1) 1),vI vU (wd (Pt.pY (Pt.grp.mul K q).1) 2),vI vU (wd (Pt.pY (Pt.grp.mul K q).1) 3),.bool (Pt.pFar (Pt.grp.mul K q).1)] (0,0) _ HO.out Tryz.underlying29 rfl zbd ?_)
    | ((with_reducible refine zap ?_); refine wpList_store_row rfl 29 _ _ rfl (w.heap.size + 1 + 1) #[vI vU (wd (Pt.pX (Pt.grp.mul K q).1) 0),vI vU (wd (Pt.pX (Pt.grp.mul K q).1) 1),vI vU (wd (Pt.pX (Pt.grp.mul K q).1) 2),vI vU (wd (Pt.pX (Pt.grp.mul K q).1) 3),vI vU (wd (Pt.pY (Pt.grp.mul K q).1) 0),vI vU (wd (Pt.pY (Pt.grp.mul K q).1) 1),vI vU (wd (Pt.pY (Pt.grp.mul K q).1) 2),vI vU (wd (Pt.pY (Pt.grp.mul K q).1) 3),.bool (Pt.pFar (Pt.grp.mul K q).1)] rfl rfl 29 _ HR.out zbd (by rw [zaz]; rfl) (one9 _ _ _) ?_))
   exact bodyPost_ret (results_cell_row rfl _ _ (w.heap.size + 1 + 1) 29 #[vI vU (wd (Pt.pX (Pt.grp.mul K q).1) 0),vI vU (wd (Pt.pX (Pt.grp.mul K q).1) 1),vI vU (wd (Pt.pX (Pt.grp.mul K q).1) 2),vI vU (wd (Pt.pX (Pt.grp.mul K q).1) 3),vI vU (wd (Pt.pY (Pt.grp.mul K q).1) 0),vI vU (wd (Pt.pY (Pt.grp.mul K q).1) 1),vI vU (wd (Pt.pY (Pt.grp.mul K q).1) 2),vI vU (wd (Pt.pY (Pt.grp.mul K q).1) 3),.bool (Pt.pFar (Pt.grp.mul K q).1)] (0,0) _ rfl (setRow_heap wr (w.heap.size + 1 + 1) _ #[vI vU (wd (Pt.pX (Pt.grp.mul K q).1) 0),vI vU (wd (Pt.pX (Pt.grp.mul K q).1) 1),vI vU (wd (Pt.pX (Pt.grp.mul K q).1) 2),vI vU (wd (Pt.pX (Pt.grp.mul K q).1) 3),vI vU (wd (Pt.pY (Pt.grp.mul K q).1) 0),vI vU (wd (Pt.pY (Pt.grp.mul K q).1) 1),vI vU (wd (Pt.pY (Pt.grp.mul K q).1) 2),vI vU (wd (Pt.pY (Pt.grp.mul K q).1) 3),.bool (Pt.pFar (Pt.grp.mul K q).1)] 29 (0,0) HR.out) Tryz.underlying29 rfl zbd) rfl ⟨rfl,zbq hB (by omega) _⟩
  | succ m =>
   obtain rfl : _ = Value.int .i64 (m : Int):=hi.trans (by congr 1; omega)
   have hm : m < 256:=by omega
   clear hi
   have hmi : (0 : Int) ≤ (m : Int):=by omega
   obtain ⟨R0,hR0⟩ : ∃ R,R = Pt.grp.mul (K / 2 ^ (m + 1)) q:=⟨_,rfl⟩
   rw [← hR0] at hO
   have HR0:=veil hR0
   clear hR0
   have hne1 : w.heap.size ≠ (w.heap.size + 1 + 1 + 1):=by omega
   have hne2 : w.heap.size + 1 ≠ (w.heap.size + 1 + 1 + 1):=by omega
   have hne3 : w.heap.size + 1 + 1 ≠ (w.heap.size + 1 + 1 + 1):=by omega
   have HO:=veil (blk9 hO)
   go_wp2_with (first
    | ((with_reducible refine zas 16 ?_); refine wpList_load_row rfl 29 _ rfl (w.heap.size + 1 + 1 + 1) rfl 29 #[vI vU (wd (Pt.pX R0.1) 0),vI vU (wd (Pt.pX R0.1) 1),vI vU (wd (Pt.pX R0.1) 2),vI vU (wd (Pt.pX R0.1) 3),vI vU (wd (Pt.pY R0.1) 0),vI vU (wd (Pt.pY R0.1) 1),vI vU (wd (Pt.pY R0.1) 2),vI vU (wd (Pt.pY R0.1) 3),.bool (Pt.pFar R0.1)] (0,0) _ HO.out Tryz.underlying29 rfl zbd ?_)
    | ((with_reducible refine zas 17 ?_); refine wpList_load_row rfl 29 _ rfl (w.heap.size + 1 + 1 + 1) rfl 29 #[vI vU (wd (Pt.pX R0.1) 0),vI vU (wd (Pt.pX R0.1) 1),vI vU (wd (Pt.pX R0.1) 2),vI vU (wd (Pt.pX R0.1) 3),vI vU (wd (Pt.pY R0.1) 0),vI vU (wd (Pt.pY R0.1) 1),vI vU (wd (Pt.pY R0.1) 2),vI vU (wd (Pt.pY R0.1) 3),.bool (Pt.pFar R0.1)] (0,0) _ HO.out Tryz.underlying29 rfl zbd ?_))
   refine (zht R0 R0 _).mono ?_
   rintro e w5 ⟨rfl,hb⟩
   replace hK:=zaa hK hb hK.lt
   replace hA:=zaa hA hb hA.lt
   replace hR:=zaa hR hb hR.lt
   replace hO:=zaa hO hb hO.lt
   replace hB:=hB.trans (hb.mono hB.size)
   obtain ⟨R1,h1⟩ : ∃ R,R = Pt.grp.op R0 R0:=⟨_,rfl⟩
   rw [← h1]
   have HR1:=veil h1
   have HO:=veil (blkOf hO)
   clear hb h1
   go_upto_region 6 with (first
    | ((with_reducible refine zap ?_); refine wpList_store_row rfl 29 _ _ rfl (w.heap.size + 1 + 1 + 1) #[vI vU (wd (Pt.pX R1.1) 0),vI vU (wd (Pt.pX R1.1) 1),vI vU (wd (Pt.pX R1.1) 2),vI vU (wd (Pt.pX R1.1) 3),vI vU (wd (Pt.pY R1.1) 0),vI vU (wd (Pt.pY R1.1) 1),vI vU (wd (Pt.pY R1.1) 2),vI vU (wd (Pt.pY R1.1) 3),.bool (Pt.pFar R1.1)] rfl rfl 29 _ HO.out zbd (by rw [zaz]; rfl) (one9 _ _ _) ?_))
   have hO' : (w5.setRow (w.heap.size + 1 + 1 + 1) #[vI vU (wd (Pt.pX R1.1) 0),vI vU (wd (Pt.pX R1.1) 1),vI vU (wd (Pt.pX R1.1) 2),vI vU (wd (Pt.pX R1.1) 3),vI vU (wd (Pt.pY R1.1) 0),vI vU (wd (Pt.pY R1.1) 1),vI vU (wd (Pt.pY R1.1) 2),vI vU (wd (Pt.pY R1.1) 3),.bool (Pt.pFar R1.1)]).rowIs (w.heap.size + 1 + 1 + 1) 29 9 (pc (Pt.pX R1.1) (Pt.pY R1.1) (Pt.pFar R1.1)):=zhc hO rfl (arr9 _ _ _)
   replace hK:=hK.of_block (zbz w5 #[vI vU (wd (Pt.pX R1.1) 0),vI vU (wd (Pt.pX R1.1) 1),vI vU (wd (Pt.pX R1.1) 2),vI vU (wd (Pt.pX R1.1) 3),vI vU (wd (Pt.pY R1.1) 0),vI vU (wd (Pt.pY R1.1) 1),vI vU (wd (Pt.pY R1.1) 2),vI vU (wd (Pt.pY R1.1) 3),.bool (Pt.pFar R1.1)] (by omega))
   replace hA:=hA.of_block (zbz w5 #[vI vU (wd (Pt.pX R1.1) 0),vI vU (wd (Pt.pX R1.1) 1),vI vU (wd (Pt.pX R1.1) 2),vI vU (wd (Pt.pX R1.1) 3),vI vU (wd (Pt.pY R1.1) 0),vI vU (wd (Pt.pY R1.1) 1),vI vU (wd (Pt.pY R1.1) 2),vI vU (wd (Pt.pY R1.1) 3),.bool (Pt.pFar R1.1)] (by omega))
   replace hR:=hR.of_block (zbz w5 #[vI vU (wd (Pt.pX R1.1) 0),vI vU (wd (Pt.pX R1.1) 1),vI vU (wd (Pt.pX R1.1) 2),vI vU (wd (Pt.pX R1.1) 3),vI vU (wd (Pt.pY R1.1) 0),vI vU (wd (Pt.pY R1.1) 1),vI vU (wd (Pt.pY R1.1) 2),vI vU (wd (Pt.pY R1.1) 3),.bool (Pt.pFar R1.1)] (by omega))
   replace hB:=zbq hB (show w.heap.size ≤ (w.heap.size + 1 + 1 + 1) by omega) #[vI vU (wd (Pt.pX R1.1) 0),vI vU (wd (Pt.pX R1.1) 1),vI vU (wd (Pt.pX R1.1) 2),vI vU (wd (Pt.pX R1.1) 3),vI vU (wd (Pt.pY R1.1) 0),vI vU (wd (Pt.pY R1.1) 1),vI vU (wd (Pt.pY R1.1) 2),vI vU (wd (Pt.pY R1.1) 3),.bool (Pt.pFar R1.1)]
   generalize w5.setRow (w.heap.size + 1 + 1 + 1) #[vI vU (wd (Pt.pX R1.1) 0),vI vU (wd (Pt.pX R1.1) 1),vI vU (wd (Pt.pX R1.1) 2),vI vU (wd (Pt.pX R1.1) 3),vI vU (wd (Pt.pY R1.1) 0),vI vU (wd (Pt.pY R1.1) 1),vI vU (wd (Pt.pY R1.1) 2),vI vU (wd (Pt.pY R1.1) 3),.bool (Pt.pFar R1.1)] = w6 at *
   clear hO HO
   have hO:=hO'
   clear hO'
   have hbc:=fun W => rbit_in K m hm W
   by_cases hbit : bit K m = true
   ·
    rw [hbit] at hbc
    have HBIT:=veil hbit
    clear hbit
    obtain ⟨k0,k1,k2,k3⟩:=zac hK
    have HC:=veil hbc
    clear hbc
    go_wp2_with fail
    refine (HC.out _).mono ?_
    rintro e w7 ⟨rfl,hb⟩
    clear k0 k1 k2 k3
    replace hK:=zaa hK hb hK.lt
    replace hA:=zaa hA hb hA.lt
    replace hR:=zaa hR hb hR.lt
    replace hO:=zaa hO hb hO.lt
    replace hB:=hB.trans (hb.mono hB.size)
    clear hb
    have HO:=veil (blk9 hO)
    have HA:=veil (blk9 hA)
    go_upto_region 8 with (fail)
    go_wp2_with (first
     | ((with_reducible refine zas 23 ?_); refine wpList_load_row rfl 29 _ rfl (w.heap.size + 1 + 1 + 1) rfl 29 #[vI vU (wd (Pt.pX R1.1) 0),vI vU (wd (Pt.pX R1.1) 1),vI vU (wd (Pt.pX R1.1) 2),vI vU (wd (Pt.pX R1.1) 3),vI vU (wd (Pt.pY R1.1) 0),vI vU (wd (Pt.pY R1.1) 1),vI vU (wd (Pt.pY R1.1) 2),vI vU (wd (Pt.pY R1.1) 3),.bool (Pt.pFar R1.1)] (0,0) _ HO.out Tryz.underlying29 rfl zbd ?_)
     | ((with_reducible refine zas 24 ?_); refine wpList_load_row rfl 29 _ rfl (w.heap.size + 1) rfl 29 #[vI vU (wd (Pt.pX q.1) 0),vI vU (wd (Pt.pX q.1) 1),vI vU (wd (Pt.pX q.1) 2),vI vU (wd (Pt.pX q.1) 3),vI vU (wd (Pt.pY q.1) 0),vI vU (wd (Pt.pY q.1) 1),vI vU (wd (Pt.pY q.1) 2),vI vU (wd (Pt.pY q.1) 3),.bool (Pt.pFar q.1)] (0,0) _ HA.out Tryz.underlying29 rfl zbd ?_))
    refine (zht R1 q _).mono ?_
    rintro e w5 ⟨rfl,hb⟩
    replace hK:=zaa hK hb hK.lt
    replace hA:=zaa hA hb hA.lt
    replace hR:=zaa hR hb hR.lt
    replace hO:=zaa hO hb hO.lt
    replace hB:=hB.trans (hb.mono hB.size)
    obtain ⟨R2,h2⟩ : ∃ R,R = Pt.grp.op R1 q:=⟨_,rfl⟩
    rw [← h2]
    have HR2:=veil h2
    have HO:=veil (blkOf hO)
    clear hb h2
    clear HA
    go_wp2_with (first
     | ((with_reducible refine zap ?_); refine wpList_store_row rfl 29 _ _ rfl (w.heap.size + 1 + 1 + 1) #[vI vU (wd (Pt.pX R2.1) 0),vI vU (wd (Pt.pX R2.1) 1),vI vU (wd (Pt.pX R2.1) 2),vI vU (wd (Pt.pX R2.1) 3),vI vU (wd (Pt.pY R2.1) 0),vI vU (wd (Pt.pY R2.1) 1),vI vU (wd (Pt.pY R2.1) 2),vI vU (wd (Pt.pY R2.1) 3),.bool (Pt.pFar R2.1)] rfl rfl 29 _ HO.out zbd (by rw [zaz]; rfl) (one9 _ _ _) ?_))
    have hO' : (w5.setRow (w.heap.size + 1 + 1 + 1) #[vI vU (wd (Pt.pX R2.1) 0),vI vU (wd (Pt.pX R2.1) 1),vI vU (wd (Pt.pX R2.1) 2),vI vU (wd (Pt.pX R2.1) 3),vI vU (wd (Pt.pY R2.1) 0),vI vU (wd (Pt.pY R2.1) 1),vI vU (wd (Pt.pY R2.1) 2),vI vU (wd (Pt.pY R2.1) 3),.bool (Pt.pFar R2.1)]).rowIs (w.heap.size + 1 + 1 + 1) 29 9 (pc (Pt.pX R2.1) (Pt.pY R2.1) (Pt.pFar R2.1)):=zhc hO rfl (arr9 _ _ _)
    replace hK:=hK.of_block (zbz w5 #[vI vU (wd (Pt.pX R2.1) 0),vI vU (wd (Pt.pX R2.1) 1),vI vU (wd (Pt.pX R2.1) 2),vI vU (wd (Pt.pX R2.1) 3),vI vU (wd (Pt.pY R2.1) 0),vI vU (wd (Pt.pY R2.1) 1),vI vU (wd (Pt.pY R2.1) 2),vI vU (wd (Pt.pY R2.1) 3),.bool (Pt.pFar R2.1)] (by omega))
    replace hA:=hA.of_block (zbz w5 #[vI vU (wd (Pt.pX R2.1) 0),vI vU (wd (Pt.pX R2.1) 1),vI vU (wd (Pt.pX R2.1) 2),vI vU (wd (Pt.pX R2.1) 3),vI vU (wd (Pt.pY R2.1) 0),vI vU (wd (Pt.pY R2.1) 1),vI vU (wd (Pt.pY R2.1) 2),vI vU (wd (Pt.pY R2.1) 3),.bool (Pt.pFar R2.1)] (by omega))
    replace hR:=hR.of_block (zbz w5 #[vI vU (wd (Pt.pX R2.1) 0),vI vU (wd (Pt.pX R2.1) 1),vI vU (wd (Pt.pX R2.1) 2),vI vU (wd (Pt.pX R2.1) 3),vI vU (wd (Pt.pY R2.1) 0),vI vU (wd (Pt.pY R2.1) 1),vI vU (wd (Pt.pY R2.1) 2),vI vU (wd (Pt.pY R2.1) 3),.bool (Pt.pFar R2.1)] (by omega))
    replace hB:=zbq hB (show w.heap.size ≤ (w.heap.size + 1 + 1 + 1) by omega) #[vI vU (wd (Pt.pX R2.1) 0),vI vU (wd (Pt.pX R2.1) 1),vI vU (wd (Pt.pX R2.1) 2),vI vU (wd (Pt.pX R2.1) 3),vI vU (wd (Pt.pY R2.1) 0),vI vU (wd (Pt.pY R2.1) 1),vI vU (wd (Pt.pY R2.1) 2),vI vU (wd (Pt.pY R2.1) 3),.bool (Pt.pFar R2.1)]
    generalize w5.setRow (w.heap.size + 1 + 1 + 1) #[vI vU (wd (Pt.pX R2.1) 0),vI vU (wd (Pt.pX R2.1) 1),vI vU (wd (Pt.pX R2.1) 2),vI vU (wd (Pt.pX R2.1) 3),vI vU (wd (Pt.pY R2.1) 0),vI vU (wd (Pt.pY R2.1) 1),vI vU (wd (Pt.pY R2.1) 2),vI vU (wd (Pt.pY R2.1) 3),.bool (Pt.pFar R2.1)] = w6 at *
    clear hO HO
    have hO:=hO'
    clear hO'
    go_roundw
    case rel => exact ⟨m,by omega,by go_num,hK,hA,hR,by rw [zgz,if_pos HBIT.out,← HR0.out,← HR1.out,← HR2.out]; exact hO,hB⟩
    case measure => simp [intOf]
   ·
    have hbit : bit K m = false:=by simpa using hbit
    rw [hbit] at hbc
    have HBIT:=veil hbit
    clear hbit
    obtain ⟨k0,k1,k2,k3⟩:=zac hK
    have HC:=veil hbc
    clear hbc
    go_wp2_with fail
    refine (HC.out _).mono ?_
    rintro e w7 ⟨rfl,hb⟩
    clear k0 k1 k2 k3
    replace hK:=zaa hK hb hK.lt
    replace hA:=zaa hA hb hA.lt
    replace hR:=zaa hR hb hR.lt
    replace hO:=zaa hO hb hO.lt
    replace hB:=hB.trans (hb.mono hB.size)
    clear hb
    go_wp2
    go_roundw
    case rel => exact ⟨m,by omega,by go_num,hK,hA,hR,by rw [zgz,HBIT.out,if_neg (by decide),← HR0.out,← HR1.out]; exact hO,hB⟩
    case measure => simp [intOf]
theorem rbase_calls (w : World) : Calls Tryz.prog 101 #[] w fun e w' => e = .returned (.agg #[vI vU (wd (Pt.gx) 0),vI vU (wd (Pt.gx) 1),vI vU (wd (Pt.gx) 2),vI vU (wd (Pt.gx) 3),vI vU (wd (Pt.gy) 0),vI vU (wd (Pt.gy) 1),vI vU (wd (Pt.gy) 2),vI vU (wd (Pt.gy) 3),.bool (false)]) ∧ Below w.heap.size w w':=by
 obtain ⟨l0,l1,l2,l3⟩:=gx_lits
 obtain ⟨m0,m1,m2,m3⟩:=gy_lits
 rw [l0,l1,l2,l3,m0,m1,m2,m3]
 clear l0 l1 l2 l3 m0 m1 m2 m3
 have hR : (((w.alloc (.cells #[vI vU 0,vI vU 0,vI vU 0,vI vU 0,vI vU 0,vI vU 0,vI vU 0,vI vU 0,.bool false] 29)).alloc (.cells #[vI vU 17627433388654248598,vI vU 8575836109218198432,vI vU 17923454489921339634,vI vU 7716867327612699207] 27)).alloc (.cells #[vI vU 14678990851816772085,vI vU 3156516839386865358,vI vU 10297457778147434006,vI vU 5756518291402817435] 27)).rowIs w.heap.size 29 9 (pc 0 0 false):=((zez rfl).alloc _).alloc _
 have hB : Below w.heap.size w (((w.alloc (.cells #[vI vU 0,vI vU 0,vI vU 0,vI vU 0,vI vU 0,vI vU 0,vI vU 0,vI vU 0,.bool false] 29)).alloc (.cells #[vI vU 17627433388654248598,vI vU 8575836109218198432,vI vU 17923454489921339634,vI vU 7716867327612699207] 27)).alloc (.cells #[vI vU 14678990851816772085,vI vU 3156516839386865358,vI vU 10297457778147434006,vI vU 5756518291402817435] 27)):=(((Below.refl _ _).alloc (by simp) _).alloc (by simp) _).alloc (by simp; omega) _
 have HR:=veil (blkOf hR)
 clear hR
 go_enter Tryz.func101,Tryz.ntmps101
 go_wp2_with ((with_reducible refine zap ?_); refine wpList_store_row rfl 29 _ _ rfl w.heap.size #[vI vU 17627433388654248598,vI vU 8575836109218198432,vI vU 17923454489921339634,vI vU 7716867327612699207,vI vU 14678990851816772085,vI vU 3156516839386865358,vI vU 10297457778147434006,vI vU 5756518291402817435,.bool false] rfl rfl 29 _ HR.out zbd (by rw [zaz]; rfl) (by simp [Value.oneCell']) ?_)
 exact bodyPost_ret (results_cell_row rfl _ _ w.heap.size 29 #[vI vU 17627433388654248598,vI vU 8575836109218198432,vI vU 17923454489921339634,vI vU 7716867327612699207,vI vU 14678990851816772085,vI vU 3156516839386865358,vI vU 10297457778147434006,vI vU 5756518291402817435,.bool false] (0,0) _ rfl (setRow_heap _ w.heap.size _ #[vI vU 17627433388654248598,vI vU 8575836109218198432,vI vU 17923454489921339634,vI vU 7716867327612699207,vI vU 14678990851816772085,vI vU 3156516839386865358,vI vU 10297457778147434006,vI vU 5756518291402817435,.bool false] 29 (0,0) HR.out) Tryz.underlying29 rfl zbd) rfl ⟨rfl,zbq hB (Nat.le_refl _) _⟩
theorem gin_small (X M : Nat) (hX : X < M) (hM : M < top) (w : World) :
  Calls Tryz.prog 103 #[.agg #[vI vU (wd X 0),vI vU (wd X 1),vI vU (wd X 2),vI vU (wd X 3)],.agg #[vI vU (wd M 0),vI vU (wd M 1),vI vU (wd M 2),vI vU (wd M 3)]] w fun e w' => e = .returned (.agg #[vI vU (wd X 0),vI vU (wd X 1),vI vU (wd X 2),vI vU (wd X 3)]) ∧ Below w.heap.size w w':=by
 have HL:=veil (show decide (X < M) = true by simpa using hX)
 have hXt : X < top:=by omega
 have hX0 : (((w.alloc (.cells #[vI vU (wd X 0),vI vU (wd X 1),vI vU (wd X 2),vI vU (wd X 3)] 27)).alloc (.cells #[vI vU (wd M 0),vI vU (wd M 1),vI vU (wd M 2),vI vU (wd M 3)] 27)).alloc (.cells #[vI vU 0,vI vU 0,vI vU 0,vI vU 0] 27)).rowIs w.heap.size 27 4 (fun j => .int .u64 (wd X j)):=((zae (n:=4) (by simp) rfl (arr4 fun j => .int .u64 (wd X j))).alloc _).alloc _
 have hM0 : (((w.alloc (.cells #[vI vU (wd X 0),vI vU (wd X 1),vI vU (wd X 2),vI vU (wd X 3)] 27)).alloc (.cells #[vI vU (wd M 0),vI vU (wd M 1),vI vU (wd M 2),vI vU (wd M 3)] 27)).alloc (.cells #[vI vU 0,vI vU 0,vI vU 0,vI vU 0] 27)).rowIs (w.heap.size + 1) 27 4 (fun j => .int .u64 (wd M j)):=(zae (n:=4) (by simp) rfl (arr4 fun j => .int .u64 (wd M j))).alloc _
 have hR0 : (((w.alloc (.cells #[vI vU (wd X 0),vI vU (wd X 1),vI vU (wd X 2),vI vU (wd X 3)] 27)).alloc (.cells #[vI vU (wd M 0),vI vU (wd M 1),vI vU (wd M 2),vI vU (wd M 3)] 27)).alloc (.cells #[vI vU 0,vI vU 0,vI vU 0,vI vU 0] 27)).rowIs (w.heap.size + 1 + 1) 27 4 (fun _ => .int .u64 0):=zae (n:=4) (by simp) rfl (arr4 fun _ => .int .u64 0)
 have hb0 : Below w.heap.size w (((w.alloc (.cells #[vI vU (wd X 0),vI vU (wd X 1),vI vU (wd X 2),vI vU (wd X 3)] 27)).alloc (.cells #[vI vU (wd M 0),vI vU (wd M 1),vI vU (wd M 2),vI vU (wd M 3)] 27)).alloc (.cells #[vI vU 0,vI vU 0,vI vU 0,vI vU 0] 27)):=(((Below.refl _ _).alloc (by simp) _).alloc (by simp) _).alloc (by simp; omega) _
 go_enter Tryz.func103,Tryz.ntmps103
 obtain ⟨a0,a1,a2,a3⟩:=zac hX0
 obtain ⟨c0,c1,c2,c3⟩:=zac hM0
 go_wp2_with fail
 refine (zgh X M true HL.out hXt hM _).mono ?_
 rintro e w1 ⟨rfl,hb1⟩
 clear a0 a1 a2 a3 c0 c1 c2 c3
 replace hX0:=zaa hX0 hb1 hX0.lt
 replace hR0:=zaa hR0 hb1 hR0.lt
 replace hb0:=hb0.trans (hb1.mono hb0.size)
 clear hb1 hM0
 obtain ⟨a0,a1,a2,a3⟩:=zac hX0
 obtain ⟨d0,d1,d2,d3⟩:=zac hR0
 obtain ⟨f0,f1,f2,f3⟩:=zaf hR0
 go_wp2
 refine bodyPost_ret (results_cell_row rfl _ _ (w.heap.size + 1 + 1) 27 #[vI vU (wd X 0),vI vU (wd X 1),vI vU (wd X 2),vI vU (wd X 3)] (0,0) _ rfl (blk4 (put4 hR0 fun j => .int .u64 (wd X j))) Tryz.underlying27 rfl (by kernel_rfl)) rfl ⟨rfl,zai hb0 (by omega) _ _ _ _⟩
def top2 : Nat:=w64 ^ 8
theorem acc_startw (X Y M n : Nat) (h : Y < w64 ^ n) : acc X Y M (64 * n) = 0:=by
 have e : (2 : Nat) ^ 64 = w64:=rfl
 unfold acc; rw [Nat.pow_mul,e,Nat.div_eq_of_lt h]; simp
theorem gin_of (X M : Nat) (a b c d : Int) (ha : wd X 0 = a) (hb : wd X 1 = b) (hc : wd X 2 = c) (hd : wd X 3 = d) (hX : X < M) (hM : M < top) (w : World) :
  Calls Tryz.prog 103 #[.agg #[vI vU a,vI vU b,vI vU c,vI vU d],.agg #[vI vU (wd M 0),vI vU (wd M 1),vI vU (wd M 2),vI vU (wd M 3)]] w fun e w' => e = .returned (.agg #[vI vU (wd X 0),vI vU (wd X 1),vI vU (wd X 2),vI vU (wd X 3)]) ∧ Below w.heap.size w w':=by
 subst ha hb hc hd; exact gin_small X M hX hM w
theorem gcut_calls (Z M : Nat) (hZ : Z < top2) (hM1 : 1 < M) (hM : M < top) (w : World) :
  Calls Tryz.prog 136 #[.agg #[vI vU (wd Z 0),vI vU (wd Z 1),vI vU (wd Z 2),vI vU (wd Z 3),vI vU (wd Z 4),vI vU (wd Z 5),vI vU (wd Z 6),vI vU (wd Z 7)],.agg #[vI vU (wd M 0),vI vU (wd M 1),vI vU (wd M 2),vI vU (wd M 3)]] w fun e w' => e = .returned (.agg #[vI vU (wd (Z % M) 0),vI vU (wd (Z % M) 1),vI vU (wd (Z % M) 2),vI vU (wd (Z % M) 3)]) ∧ Below w.heap.size w w':=by
 have hM0 : 0 < M:=by omega
 obtain ⟨U,hU⟩ : ∃ U,U = 1:=⟨_,rfl⟩
 have HZ:=veil (acc_startw U Z M 8 hZ)
 clear hZ
 have hUM : U < M:=by omega
 have h1:=fun W => gin_of U M 1 0 0 0 (by rw [hU]; decide) (by rw [hU]; decide) (by rw [hU]; decide) (by rw [hU]; decide) hUM hM W
 have H1:=veil h1
 clear h1
 obtain ⟨P,hP⟩ : ∃ P,P = Z % M:=⟨_,rfl⟩
 rw [← hP]
 have HP:=veil (show P = U * Z % M by rw [hU,Nat.one_mul,hP])
 clear hP hU
 have hB0 : ((((w.alloc (.cells #[vI vU (wd Z 0),vI vU (wd Z 1),vI vU (wd Z 2),vI vU (wd Z 3),vI vU (wd Z 4),vI vU (wd Z 5),vI vU (wd Z 6),vI vU (wd Z 7)] 165)).alloc (.cells #[vI vU (wd M 0),vI vU (wd M 1),vI vU (wd M 2),vI vU (wd M 3)] 27)).alloc (.cells #[vI vU 0,vI vU 0,vI vU 0,vI vU 0] 27)).alloc (.cells #[vI vU 0,vI vU 0,vI vU 0,vI vU 0] 27)).rowIs w.heap.size 165 8 (fun j => .int .u64 (wd Z j)):=(((zae (n:=8) (by simp) rfl (arr8 fun j => .int .u64 (wd Z j))).alloc _).alloc _).alloc _
 have hC0 : ((((w.alloc (.cells #[vI vU (wd Z 0),vI vU (wd Z 1),vI vU (wd Z 2),vI vU (wd Z 3),vI vU (wd Z 4),vI vU (wd Z 5),vI vU (wd Z 6),vI vU (wd Z 7)] 165)).alloc (.cells #[vI vU (wd M 0),vI vU (wd M 1),vI vU (wd M 2),vI vU (wd M 3)] 27)).alloc (.cells #[vI vU 0,vI vU 0,vI vU 0,vI vU 0] 27)).alloc (.cells #[vI vU 0,vI vU 0,vI vU 0,vI vU 0] 27)).rowIs (w.heap.size + 1) 27 4 (fun j => .int .u64 (wd M j)):=((zae (n:=4) (by simp) rfl (arr4 fun j => .int .u64 (wd M j))).alloc _).alloc _
 have hR0 : ((((w.alloc (.cells #[vI vU (wd Z 0),vI vU (wd Z 1),vI vU (wd Z 2),vI vU (wd Z 3),vI vU (wd Z 4),vI vU (wd Z 5),vI vU (wd Z 6),vI vU (wd Z 7)] 165)).alloc (.cells #[vI vU (wd M 0),vI vU (wd M 1),vI vU (wd M 2),vI vU (wd M 3)] 27)).alloc (.cells #[vI vU 0,vI vU 0,vI vU 0,vI vU 0] 27)).alloc (.cells #[vI vU 0,vI vU 0,vI vU 0,vI vU 0] 27)).rowIs (w.heap.size + 1 + 1) 27 4 (fun _ => .int .u64 0):=(zae (n:=4) (by simp) rfl (arr4 fun _ => .int .u64 0)).alloc _
 have hO0 : ((((w.alloc (.cells #[vI vU (wd Z 0),vI vU (wd Z 1),vI vU (wd Z 2),vI vU (wd Z 3),vI vU (wd Z 4),vI vU (wd Z 5),vI vU (wd Z 6),vI vU (wd Z 7)] 165)).alloc (.cells #[vI vU (wd M 0),vI vU (wd M 1),vI vU (wd M 2),vI vU (wd M 3)] 27)).alloc (.cells #[vI vU 0,vI vU 0,vI vU 0,vI vU 0] 27)).alloc (.cells #[vI vU 0,vI vU 0,vI vU 0,vI vU 0] 27)).rowIs (w.heap.size + 1 + 1 + 1) 27 4 (fun _ => .int .u64 0):=zae (n:=4) (by simp) rfl (arr4 fun _ => .int .u64 0)
 have hb0 : Below w.heap.size w ((((w.alloc (.cells #[vI vU (wd Z 0),vI vU (wd Z 1),vI vU (wd Z 2),vI vU (wd Z 3),vI vU (wd Z 4),vI vU (wd Z 5),vI vU (wd Z 6),vI vU (wd Z 7)] 165)).alloc (.cells #[vI vU (wd M 0),vI vU (wd M 1),vI vU (wd M 2),vI vU (wd M 3)] 27)).alloc (.cells #[vI vU 0,vI vU 0,vI vU 0,vI vU 0] 27)).alloc (.cells #[vI vU 0,vI vU 0,vI vU 0,vI vU 0] 27)):=((((Below.refl _ _).alloc (by simp) _).alloc (by simp) _).alloc (by simp; omega) _).alloc (by simp; omega) _
 have hz0 : w.heap.size + 1 + 1 + 1 < ((((w.alloc (.cells #[vI vU (wd Z 0),vI vU (wd Z 1),vI vU (wd Z 2),vI vU (wd Z 3),vI vU (wd Z 4),vI vU (wd Z 5),vI vU (wd Z 6),vI vU (wd Z 7)] 165)).alloc (.cells #[vI vU (wd M 0),vI vU (wd M 1),vI vU (wd M 2),vI vU (wd M 3)] 27)).alloc (.cells #[vI vU 0,vI vU 0,vI vU 0,vI vU 0] 27)).alloc (.cells #[vI vU 0,vI vU 0,vI vU 0,vI vU 0] 27)).heap.size:=by simp
 obtain ⟨c0,c1,c2,c3⟩:=zac hC0
 go_enter Tryz.func136,Tryz.ntmps136
 go_wp2_with fail
 refine (H1.out _).mono ?_
 rintro e w1 ⟨rfl,hb1⟩
 clear c0 c1 c2 c3
 replace hB0:=(zaa hB0 hb1 hB0.lt).alloc (.cells #[vI vU (wd U 0),vI vU (wd U 1),vI vU (wd U 2),vI vU (wd U 3)] 27)
 replace hC0:=(zaa hC0 hb1 hC0.lt).alloc (.cells #[vI vU (wd U 0),vI vU (wd U 1),vI vU (wd U 2),vI vU (wd U 3)] 27)
 replace hR0:=(zaa hR0 hb1 hR0.lt).alloc (.cells #[vI vU (wd U 0),vI vU (wd U 1),vI vU (wd U 2),vI vU (wd U 3)] 27)
 replace hO0:=(zaa hO0 hb1 hO0.lt).alloc (.cells #[vI vU (wd U 0),vI vU (wd U 1),vI vU (wd U 2),vI vU (wd U 3)] 27)
 replace hz0 : w.heap.size + 1 + 1 + 1 < w1.heap.size:=Nat.lt_of_lt_of_le hz0 hb1.size
 replace hb0:=(hb0.trans (hb1.mono hb0.size)).alloc (by omega) (.cells #[vI vU (wd U 0),vI vU (wd U 1),vI vU (wd U 2),vI vU (wd U 3)] 27)
 have hA0 : (w1.alloc (.cells #[vI vU (wd U 0),vI vU (wd U 1),vI vU (wd U 2),vI vU (wd U 3)] 27)).rowIs w1.heap.size 27 4 (fun j => .int .u64 (wd U j)):=zae (n:=4) rfl rfl (arr4 fun j => .int .u64 (wd U j))
 clear hb1
 go_wp2_with fail
 generalize w1.heap.size = g at *
 generalize w1.alloc (.cells #[vI vU (wd U 0),vI vU (wd U 1),vI vU (wd U 2),vI vU (wd U 3)] 27) = w0 at *
 go_loopw [7] (fun i wr => ∃ k : Nat,k ≤ 8 ∧ i = .int .i64 ((k : Int) - 1) ∧ wr.rowIs g 27 4 (fun j => .int .u64 (wd U j)) ∧ wr.rowIs w.heap.size 165 8 (fun j => .int .u64 (wd Z j)) ∧ wr.rowIs (w.heap.size + 1) 27 4 (fun j => .int .u64 (wd M j)) ∧ wr.rowIs (w.heap.size + 1 + 1) 27 4 (fun _ => .int .u64 0) ∧ wr.rowIs (w.heap.size + 1 + 1 + 1) 27 4 (fun j => .int .u64 (wd (acc U Z M (64 * k)) j)) ∧ Below w.heap.size w wr)
  (fun i _ => (intOf i + 1).toNat)
 case atStart => exact ⟨8,by omega,rfl,hA0,hB0,hC0,hR0,hO0.congr (fun j hj => by rw [HZ.out]; unfold wd dg; simp),hb0⟩
 case round =>
  obtain ⟨k,hk,hi,hA,hB,hC,hR,hO,hbel⟩:=hrel
  clear hA0 hB0 hC0 hR0 hO0 hb0
  cases k with
  | zero =>
   subst hi
   have hO:=hO.congr (g:=fun j => .int .u64 (wd P j)) (fun j _ => by rw [Nat.mul_zero,acc_end,← HP.out])
   obtain ⟨o0,o1,o2,o3⟩:=zac hO
   obtain ⟨d0,d1,d2,d3⟩:=zac hR
   obtain ⟨f0,f1,f2,f3⟩:=zaf hR
   go_wp2
   refine bodyPost_ret (results_cell_row rfl _ _ (w.heap.size + 1 + 1) 27 #[vI vU (wd P 0),vI vU (wd P 1),vI vU (wd P 2),vI vU (wd P 3)] (0,0) _ rfl (blk4 (put4 hR fun j => .int .u64 (wd P j))) Tryz.underlying27 rfl (by kernel_rfl)) rfl ⟨rfl,zai hbel (by omega) _ _ _ _⟩
  | succ k =>
   obtain rfl : _ = Value.int .i64 (k : Int):=hi.trans (by congr 1; omega)
   clear hi
   have hk4 : k < 8:=by omega
   have c1:=hB.cell hk4
   go_wp2
   clear c1
   obtain ⟨wo,hwo⟩ : ∃ wo : World,wo = wr:=⟨_,rfl⟩
   rw [← hwo] at hA hB hC hR hO hbel ⊢
   clear hwo
   go_loopw [8,9] (fun q kk wq => ∃ m : Nat,m ≤ 64 ∧ kk = .int .i64 m ∧ q = .int .u64 (mw Z k m : Nat) ∧ wq.rowIs g 27 4 (fun j => .int .u64 (wd U j)) ∧ wq.rowIs w.heap.size 165 8 (fun j => .int .u64 (wd Z j)) ∧ wq.rowIs (w.heap.size + 1) 27 4 (fun j => .int .u64 (wd M j)) ∧ wq.rowIs (w.heap.size + 1 + 1) 27 4 (fun _ => .int .u64 0) ∧ wq.rowIs (w.heap.size + 1 + 1 + 1) 27 4 (fun j => .int .u64 (wd (acc U Z M (64 * (k + 1) - m)) j)) ∧ Below w.heap.size w wq)
    (fun _ kk _ => 64 - (intOf kk).toNat)
   case atStart => exact ⟨0,by omega,rfl,by rw [mw_zero]; rfl,hA,hB,hC,hR,hO,hbel⟩
   case round =>
    obtain ⟨m,hm,rfl,rfl,hA,hB,hC,hR,hO,hbel⟩:=hrel
    by_cases hlt : m < 64
    ·
     have hq:=mw_lt Z k m
     have hs : IntKind.u64.wrap ((mw Z k m : Nat) + (mw Z k m : Nat)) = ((mw Z k (m + 1) : Nat) : Int):=by
      rw [IntKind.wrap_u64,← mw_succ]; generalize mw Z k m = z; omega
     have ht:=mw_top Z k m hlt
     obtain ⟨z,hz⟩ : ∃ z : Int,z = ((mw Z k m : Nat) : Int):=⟨_,rfl⟩
     rw [← hz] at hs ⊢
     have hz0 : 0 ≤ z:=by omega
     have hz1 : z < 18446744073709551616:=by omega
     obtain ⟨n,hn⟩ : ∃ n,n = 64 * k + (63 - m):=⟨_,rfl⟩
     rw [← hn] at ht
     rw [show 64 * (k + 1) - m = n + 1 by omega] at hO
     have hVM:=acc_lt (X:=U) (Y:=Z) (n:=n + 1) hM0
     have e1:=acc_twice U Z M n
     have e2:=acc_more U Z M n
     generalize acc U Z M (n + 1) = V at *
     obtain ⟨D,hD⟩ : ∃ D,D = (V + V) % M:=⟨_,rfl⟩
     rw [← hD] at e1 e2
     have hDM : D < M:=by rw [hD]; exact Nat.mod_lt _ hM0
     have h1:=fun W => zep V V M hVM hVM hM W
     rw [← hD] at h1
     have H1:=veil h1
     clear h1
     obtain ⟨o0,o1,o2,o3⟩:=zac hO
     obtain ⟨c0,c1,c2,c3⟩:=zac hC
     by_cases hbit : 9223372036854775808 ≤ mw Z k m
     ·
      have h2:=fun W => zep D U M hDM hUM hM W
      rw [e2 (ht.1 hbit)] at h2
      have H2:=veil h2
      have hbI : 9223372036854775808 ≤ z:=by omega
      clear h2 e1 e2 hD ht hq hbit hz
      have hN:=veil hn
      clear hn
      obtain ⟨T,hT⟩ : ∃ T,T = acc U Z M n:=⟨_,rfl⟩
      rw [← hT] at H2
      have HT:=veil hT
      clear hT
      go_wp2_with fail
      refine (H1.out _).mono ?_
      rintro e w1 ⟨rfl,hb1⟩
      clear o0 o1 o2 o3 c0 c1 c2 c3
      replace hA:=zaa hA hb1 hA.lt
      replace hB:=zaa hB hb1 hB.lt
      replace hC:=zaa hC hb1 hC.lt
      replace hR:=zaa hR hb1 hR.lt
      replace hO:=zaa hO hb1 hO.lt
      replace hbel:=hbel.trans (hb1.mono hbel.size)
      clear hb1
      obtain ⟨o0,o1,o2,o3⟩:=zac hO
      obtain ⟨f0,f1,f2,f3⟩:=zaf hO
      go_upto_region 11 with (fail)
      replace hA:=zah hA (b':=w.heap.size + 1 + 1 + 1) (by omega) (.int .u64 (wd D 0)) (.int .u64 (wd D 1)) (.int .u64 (wd D 2)) (.int .u64 (wd D 3))
      replace hB:=zah hB (b':=w.heap.size + 1 + 1 + 1) (by omega) (.int .u64 (wd D 0)) (.int .u64 (wd D 1)) (.int .u64 (wd D 2)) (.int .u64 (wd D 3))
      replace hC:=zah hC (b':=w.heap.size + 1 + 1 + 1) (by omega) (.int .u64 (wd D 0)) (.int .u64 (wd D 1)) (.int .u64 (wd D 2)) (.int .u64 (wd D 3))
      replace hR:=zah hR (b':=w.heap.size + 1 + 1 + 1) (by omega) (.int .u64 (wd D 0)) (.int .u64 (wd D 1)) (.int .u64 (wd D 2)) (.int .u64 (wd D 3))
      replace hbel:=zai (b:=w.heap.size + 1 + 1 + 1) hbel (by omega) (.int .u64 (wd D 0)) (.int .u64 (wd D 1)) (.int .u64 (wd D 2)) (.int .u64 (wd D 3))
      replace hO:=put4 hO (fun j => .int .u64 (wd D j))
      clear o0 o1 o2 o3 f0 f1 f2 f3
      generalize (((w1.setCell ⟨w.heap.size + 1 + 1 + 1,0,none⟩ (.int .u64 (wd D 0))).setCell ⟨w.heap.size + 1 + 1 + 1,1,none⟩ (.int .u64 (wd D 1))).setCell ⟨w.heap.size + 1 + 1 + 1,2,none⟩ (.int .u64 (wd D 2))).setCell ⟨w.heap.size + 1 + 1 + 1,3,none⟩ (.int .u64 (wd D 3)) = v1 at *
      obtain ⟨o0,o1,o2,o3⟩:=zac hO
      obtain ⟨c0,c1,c2,c3⟩:=zac hC
      obtain ⟨a0,a1,a2,a3⟩:=zac hA
      go_wp2_with fail
      refine (H2.out _).mono ?_
      rintro e w2 ⟨rfl,hb2⟩
      clear o0 o1 o2 o3 c0 c1 c2 c3 a0 a1 a2 a3
      replace hA:=zaa hA hb2 hA.lt
      replace hB:=zaa hB hb2 hB.lt
      replace hC:=zaa hC hb2 hC.lt
      replace hR:=zaa hR hb2 hR.lt
      replace hO:=zaa hO hb2 hO.lt
      replace hbel:=hbel.trans (hb2.mono hbel.size)
      clear hb2
      obtain ⟨o0,o1,o2,o3⟩:=zac hO
      obtain ⟨f0,f1,f2,f3⟩:=zaf hO
      go_upto_region 13 with (fail)
      replace hA:=zah hA (b':=w.heap.size + 1 + 1 + 1) (by omega) (.int .u64 (wd T 0)) (.int .u64 (wd T 1)) (.int .u64 (wd T 2)) (.int .u64 (wd T 3))
      replace hB:=zah hB (b':=w.heap.size + 1 + 1 + 1) (by omega) (.int .u64 (wd T 0)) (.int .u64 (wd T 1)) (.int .u64 (wd T 2)) (.int .u64 (wd T 3))
      replace hC:=zah hC (b':=w.heap.size + 1 + 1 + 1) (by omega) (.int .u64 (wd T 0)) (.int .u64 (wd T 1)) (.int .u64 (wd T 2)) (.int .u64 (wd T 3))
      replace hR:=zah hR (b':=w.heap.size + 1 + 1 + 1) (by omega) (.int .u64 (wd T 0)) (.int .u64 (wd T 1)) (.int .u64 (wd T 2)) (.int .u64 (wd T 3))
      replace hbel:=zai (b:=w.heap.size + 1 + 1 + 1) hbel (by omega) (.int .u64 (wd T 0)) (.int .u64 (wd T 1)) (.int .u64 (wd T 2)) (.int .u64 (wd T 3))
      replace hO:=put4 hO (fun j => .int .u64 (wd T j))
      clear o0 o1 o2 o3 f0 f1 f2 f3
      generalize (((w2.setCell ⟨w.heap.size + 1 + 1 + 1,0,none⟩ (.int .u64 (wd T 0))).setCell ⟨w.heap.size + 1 + 1 + 1,1,none⟩ (.int .u64 (wd T 1))).setCell ⟨w.heap.size + 1 + 1 + 1,2,none⟩ (.int .u64 (wd T 2))).setCell ⟨w.heap.size + 1 + 1 + 1,3,none⟩ (.int .u64 (wd T 3)) = v2 at *
      obtain ⟨o0,o1,o2,o3⟩:=zac hO
      obtain ⟨c0,c1,c2,c3⟩:=zac hC
      go_wp2
      go_roundw
      case rel => exact ⟨m + 1,by omega,by go_num,rfl,hA,hB,hC,hR,by rw [show 64 * (k + 1) - (m + 1) = n by have:=hN.out; omega,← HT.out]; exact hO,hbel⟩
      case measure => simp [intOf]; omega
     ·
      have e1:=e1 (by have:=ht.2; omega)
      have hbI : z < 9223372036854775808:=by omega
      have hN:=veil hn
      have E1:=veil e1
      clear e1 e2 hD ht hq hbit hz hn
      go_wp2_with fail
      refine (H1.out _).mono ?_
      rintro e w1 ⟨rfl,hb1⟩
      clear o0 o1 o2 o3 c0 c1 c2 c3
      replace hA:=zaa hA hb1 hA.lt
      replace hB:=zaa hB hb1 hB.lt
      replace hC:=zaa hC hb1 hC.lt
      replace hR:=zaa hR hb1 hR.lt
      replace hO:=zaa hO hb1 hO.lt
      replace hbel:=hbel.trans (hb1.mono hbel.size)
      clear hb1
      obtain ⟨o0,o1,o2,o3⟩:=zac hO
      obtain ⟨f0,f1,f2,f3⟩:=zaf hO
      go_upto_region 11 with (fail)
      replace hA:=zah hA (b':=w.heap.size + 1 + 1 + 1) (by omega) (.int .u64 (wd D 0)) (.int .u64 (wd D 1)) (.int .u64 (wd D 2)) (.int .u64 (wd D 3))
      replace hB:=zah hB (b':=w.heap.size + 1 + 1 + 1) (by omega) (.int .u64 (wd D 0)) (.int .u64 (wd D 1)) (.int .u64 (wd D 2)) (.int .u64 (wd D 3))
      replace hC:=zah hC (b':=w.heap.size + 1 + 1 + 1) (by omega) (.int .u64 (wd D 0)) (.int .u64 (wd D 1)) (.int .u64 (wd D 2)) (.int .u64 (wd D 3))
      replace hR:=zah hR (b':=w.heap.size + 1 + 1 + 1) (by omega) (.int .u64 (wd D 0)) (.int .u64 (wd D 1)) (.int .u64 (wd D 2)) (.int .u64 (wd D 3))
      replace hbel:=zai (b:=w.heap.size + 1 + 1 + 1) hbel (by omega) (.int .u64 (wd D 0)) (.int .u64 (wd D 1)) (.int .u64 (wd D 2)) (.int .u64 (wd D 3))
      replace hO:=put4 hO (fun j => .int .u64 (wd D j))
      clear o0 o1 o2 o3 f0 f1 f2 f3
      generalize (((w1.setCell ⟨w.heap.size + 1 + 1 + 1,0,none⟩ (.int .u64 (wd D 0))).setCell ⟨w.heap.size + 1 + 1 + 1,1,none⟩ (.int .u64 (wd D 1))).setCell ⟨w.heap.size + 1 + 1 + 1,2,none⟩ (.int .u64 (wd D 2))).setCell ⟨w.heap.size + 1 + 1 + 1,3,none⟩ (.int .u64 (wd D 3)) = v1 at *
      obtain ⟨o0,o1,o2,o3⟩:=zac hO
      obtain ⟨c0,c1,c2,c3⟩:=zac hC
      go_wp2
      go_roundw
      case rel => exact ⟨m + 1,by omega,by go_num,rfl,hA,hB,hC,hR,by rw [show 64 * (k + 1) - (m + 1) = n by have:=hN.out; omega,← E1.out]; exact hO,hbel⟩
      case measure => simp [intOf]; omega
    ·
     obtain rfl : m = 64:=by omega
     go_wp2
     go_roundw
     case rel => exact ⟨k,by omega,by go_num,hA,hB,hC,hR,by rw [show 64 * (k + 1) - 64 = 64 * k by omega] at hO; exact hO,hbel⟩
     case measure => simp [intOf]
theorem top_le_top2 : top ≤ top2:=by
 show w64 ^ 4 ≤ w64 ^ 8
 exact Nat.pow_le_pow_right zba (by omega)
theorem gcut_num (X M P : Nat) (hP : X % M = P) (hX : X < top) (hM1 : 1 < M) (hM : M < top) (w : World) :
  Calls Tryz.prog 136 #[.agg #[vI vU (wd X 0),vI vU (wd X 1),vI vU (wd X 2),vI vU (wd X 3),vI vU 0,vI vU 0,vI vU 0,vI vU 0],.agg #[vI vU (wd M 0),vI vU (wd M 1),vI vU (wd M 2),vI vU (wd M 3)]] w fun e w' => e = .returned (.agg #[vI vU (wd P 0),vI vU (wd P 1),vI vU (wd P 2),vI vU (wd P 3)]) ∧ Below w.heap.size w w':=by
 subst hP
 obtain ⟨e4,e5,e6,e7⟩:=num_wide X hX
 have h:=gcut_calls X M (Nat.lt_of_lt_of_le hX top_le_top2) hM1 hM w
 rw [e4,e5,e6,e7] at h
 exact h
theorem gin_big (X M P : Nat) (hP : X % M = P) (hX : X < top) (hXM : decide (X < M) = false) (hM1 : 1 < M) (hM : M < top) (w : World) :
  Calls Tryz.prog 103 #[.agg #[vI vU (wd X 0),vI vU (wd X 1),vI vU (wd X 2),vI vU (wd X 3)],.agg #[vI vU (wd M 0),vI vU (wd M 1),vI vU (wd M 2),vI vU (wd M 3)]] w fun e w' => e = .returned (.agg #[vI vU (wd P 0),vI vU (wd P 1),vI vU (wd P 2),vI vU (wd P 3)]) ∧ Below w.heap.size w w':=by
 have HL:=veil hXM
 have h2:=fun W => gcut_num X M P hP hX hM1 hM W
 have H2:=veil h2
 clear h2 hXM hP
 have hX0 : (((w.alloc (.cells #[vI vU (wd X 0),vI vU (wd X 1),vI vU (wd X 2),vI vU (wd X 3)] 27)).alloc (.cells #[vI vU (wd M 0),vI vU (wd M 1),vI vU (wd M 2),vI vU (wd M 3)] 27)).alloc (.cells #[vI vU 0,vI vU 0,vI vU 0,vI vU 0] 27)).rowIs w.heap.size 27 4 (fun j => .int .u64 (wd X j)):=((zae (n:=4) (by simp) rfl (arr4 fun j => .int .u64 (wd X j))).alloc _).alloc _
 have hM0 : (((w.alloc (.cells #[vI vU (wd X 0),vI vU (wd X 1),vI vU (wd X 2),vI vU (wd X 3)] 27)).alloc (.cells #[vI vU (wd M 0),vI vU (wd M 1),vI vU (wd M 2),vI vU (wd M 3)] 27)).alloc (.cells #[vI vU 0,vI vU 0,vI vU 0,vI vU 0] 27)).rowIs (w.heap.size + 1) 27 4 (fun j => .int .u64 (wd M j)):=(zae (n:=4) (by simp) rfl (arr4 fun j => .int .u64 (wd M j))).alloc _
 have hR0 : (((w.alloc (.cells #[vI vU (wd X 0),vI vU (wd X 1),vI vU (wd X 2),vI vU (wd X 3)] 27)).alloc (.cells #[vI vU (wd M 0),vI vU (wd M 1),vI vU (wd M 2),vI vU (wd M 3)] 27)).alloc (.cells #[vI vU 0,vI vU 0,vI vU 0,vI vU 0] 27)).rowIs (w.heap.size + 1 + 1) 27 4 (fun _ => .int .u64 0):=zae (n:=4) (by simp) rfl (arr4 fun _ => .int .u64 0)
 have hb0 : Below w.heap.size w (((w.alloc (.cells #[vI vU (wd X 0),vI vU (wd X 1),vI vU (wd X 2),vI vU (wd X 3)] 27)).alloc (.cells #[vI vU (wd M 0),vI vU (wd M 1),vI vU (wd M 2),vI vU (wd M 3)] 27)).alloc (.cells #[vI vU 0,vI vU 0,vI vU 0,vI vU 0] 27)):=(((Below.refl _ _).alloc (by simp) _).alloc (by simp) _).alloc (by simp; omega) _
 go_enter Tryz.func103,Tryz.ntmps103
 obtain ⟨a0,a1,a2,a3⟩:=zac hX0
 obtain ⟨c0,c1,c2,c3⟩:=zac hM0
 go_wp2_with fail
 refine (zgh X M false HL.out hX hM _).mono ?_
 rintro e w1 ⟨rfl,hb1⟩
 clear a0 a1 a2 a3 c0 c1 c2 c3
 replace hX0:=zaa hX0 hb1 hX0.lt
 replace hM0:=zaa hM0 hb1 hM0.lt
 replace hR0:=zaa hR0 hb1 hR0.lt
 replace hb0:=hb0.trans (hb1.mono hb0.size)
 clear hb1
 obtain ⟨a0,a1,a2,a3⟩:=zac hX0
 obtain ⟨c0,c1,c2,c3⟩:=zac hM0
 obtain ⟨d0,d1,d2,d3⟩:=zac hR0
 obtain ⟨f0,f1,f2,f3⟩:=zaf hR0
 go_wp2_with fail
 refine (H2.out _).mono ?_
 rintro e w2 ⟨rfl,hb1⟩
 clear a0 a1 a2 a3 c0 c1 c2 c3 d0 d1 d2 d3 f0 f1 f2 f3
 replace hR0:=zaa hR0 hb1 hR0.lt
 replace hb0:=hb0.trans (hb1.mono hb0.size)
 clear hb1 hX0 hM0
 obtain ⟨d0,d1,d2,d3⟩:=zac hR0
 obtain ⟨f0,f1,f2,f3⟩:=zaf hR0
 go_wp2
 refine bodyPost_ret (results_cell_row rfl _ _ (w.heap.size + 1 + 1) 27 #[vI vU (wd P 0),vI vU (wd P 1),vI vU (wd P 2),vI vU (wd P 3)] (0,0) _ rfl (blk4 (put4 hR0 fun j => .int .u64 (wd P j))) Tryz.underlying27 rfl (by kernel_rfl)) rfl ⟨rfl,zai hb0 (by omega) _ _ _ _⟩
theorem gin_calls (X M : Nat) (hX : X < top) (hM1 : 1 < M) (hM : M < top) (w : World) :
  Calls Tryz.prog 103 #[.agg #[vI vU (wd X 0),vI vU (wd X 1),vI vU (wd X 2),vI vU (wd X 3)],.agg #[vI vU (wd M 0),vI vU (wd M 1),vI vU (wd M 2),vI vU (wd M 3)]] w fun e w' => e = .returned (.agg #[vI vU (wd (X % M) 0),vI vU (wd (X % M) 1),vI vU (wd (X % M) 2),vI vU (wd (X % M) 3)]) ∧ Below w.heap.size w w':=by
 by_cases h : X < M
 ·
  rw [Nat.mod_eq_of_lt h]; exact gin_small X M h hM w
 ·
  exact gin_big X M _ rfl hX (by simpa using h) hM1 hM w
end Go.Proofs.YthlbemnbmbmjhaaGreatDoor
namespace Go.Proofs.YthlbemnbmbmjhaaGreatDoor.Pt
theorem nn_big : 3 < nn:=by decide +kernel
theorem nn_root : ∃ g : Fin nn,Root g:=by
 obtain ⟨ps,hp,h⟩:=(tab_pr tab [2] two_only tab_ok (0xffffffff00000000ffffffffffffffffbce6faada7179e84f3b9cac2fc632551,7,[2,2,2,2,3,71,131,373,3407,17449,38189,187019741,622491383,1002328039319,2624747550333869278416773953]) (by decide +kernel)).2
 exact ⟨_,(row_root (n:=nn) hp h).2⟩
abbrev Ne:=Fin nn
theorem nn_one : 1 < nn:=by have:=nn_big; omega
section
variable {n : Nat} [NeZero n]
theorem uniq_inv {x y z : Fin n} (h1 : x * y = 1) (h2 : x * z = 1) : y = z:=by
 have e : y = y * (x * z):=by rw [h2,zhy]
 rw [e,← zga,zgv y x,h1,zgt]
theorem F_vlt {a : Nat} (h : a < n) : (F a : Fin n).val = a:=Nat.mod_eq_of_lt h
theorem F_mul_one (hn : 1 < n) {a t : Nat} (h : a * t % n = 1) : (F a : Fin n) * F t = 1:=by
 rw [← F_mul]
 apply Fin.ext
 rw [val_one hn]
 exact h
def gi (x : Fin n) : Fin n:=pf x (n - 2)
theorem gi_mul (hr : ∃ g : Fin n,Root g) (hn : 1 < n) {x : Fin n} (h : x ≠ 0) : x * gi x = 1:=by
 obtain ⟨g,hg⟩:=hr
 exact ziu hg hn h
theorem gi_of (hr : ∃ g : Fin n,Root g) (hn : 1 < n) {x t : Fin n} (h : x * t = 1) : t = gi x:=by
 have hx : x ≠ 0:=by
  rintro rfl
  have e : (0 : Fin n) * t = 0:=by grobner
  rw [e] at h
  have h2:=congrArg Fin.val h
  rw [Fin.val_zero,val_one hn] at h2
  exact absurd h2 (by decide)
 exact uniq_inv h (gi_mul hr hn hx)
end
section
variable (n : Nat) [NeZero n]
def iG (a : Nat) : Nat:=(gi (F a : Fin n)).val
theorem iG_lt (a : Nat) : iG n a < n:=(gi (F a : Fin n)).isLt
theorem iG_of (hr : ∃ g : Fin n,Root g) (hn : 1 < n) {a t : Nat} (ht : t < n) (h : a * t % n = 1) : t = iG n a:=by
 have e2:=congrArg Fin.val (gi_of hr hn (F_mul_one hn h))
 rw [F_vlt ht] at e2
 exact e2
omit [NeZero n] in
theorem gcd_of (hp : ∀ d,d ∣ n → d = 1 ∨ d = n) {a : Nat} (h0 : a ≠ 0) (h : a < n) : Nat.gcd a n = 1:=by
 rcases hp _ (Nat.gcd_dvd_right a n) with h1 | h1
 ·
  exact h1
 ·
  exfalso
  have h2:=Nat.gcd_dvd_left a n
  rw [h1] at h2
  have h3:=Nat.le_of_dvd (Nat.pos_of_ne_zero h0) h2
  omega
end
theorem gcd_nn {a : Nat} (h0 : a ≠ 0) (h : a < nn) : Nat.gcd a nn = 1:=gcd_of nn nn_pr.2 h0 h
/-! ### multiples -/
/-! ### signatures -/
def rOf (k : Nat) : Nat:=pX (grp.mul k base).1 % nn
def sOf (d e k : Nat) : Nat:=iG nn k * ((e % nn + rOf k * d % nn) % nn) % nn
def inR (x : Nat) : Bool:=decide (x ≠ 0) && decide (x < nn)
theorem inR_iff (x : Nat) : inR x = true ↔ x ≠ 0 ∧ x < nn:=by simp [inR]
def sumOf (q : Q) (e r s : Nat) : Q:=grp.op (grp.mul (e % nn * iG nn s % nn) base) (grp.mul (r * iG nn s % nn) q)
def verB (q : Q) (e r s : Nat) : Bool:=!pFar q.1 && inR r && inR s && !pFar (sumOf q e r s).1 && decide (pX (sumOf q e r s).1 % nn = r)
end Go.Proofs.YthlbemnbmbmjhaaGreatDoor.Pt
namespace Go.Proofs.YthlbemnbmbmjhaaGreatDoor
open Go.RowKit
open Go.Value renaming int → vI
open Go.IntKind renaming u64 → vU
open Go.Act renaming put → aP
open List renaming setIfInBounds_toArray → lA, set_cons_zero → lZ, set_cons_succ → lS
/-! ### points -/
def pv (q : Pt.Q) : Value:=qv (Pt.pX q.1) (Pt.pY q.1) (Pt.pFar q.1)
theorem base_x : Pt.pX Pt.base.1 = Pt.gx ∧ Pt.pY Pt.base.1 = Pt.gy ∧ Pt.pFar Pt.base.1 = false:=by decide +kernel
theorem rbase_is (w : World) : Calls Tryz.prog 101 #[] w fun e w' => e = .returned (qv Pt.gx Pt.gy false) ∧ Ext w w':=rbase_calls w
theorem rmulq_is {K : Nat} (hK : K < top) {p q : Pt.Q} (hq : q = Pt.grp.mul K p) (w : World) : Calls Tryz.prog 98 #[nv K,qv (Pt.pX p.1) (Pt.pY p.1) (Pt.pFar p.1)] w fun e w' => e = .returned (qv (Pt.pX q.1) (Pt.pY q.1) (Pt.pFar q.1)) ∧ Ext w w':=by
 subst hq; exact rtimes_calls K hK p w
theorem rmulb_is {K : Nat} (hK : K < top) {q : Pt.Q} (hq : q = Pt.grp.mul K Pt.base) (w : World) : Calls Tryz.prog 98 #[nv K,qv Pt.gx Pt.gy false] w fun e w' => e = .returned (qv (Pt.pX q.1) (Pt.pY q.1) (Pt.pFar q.1)) ∧ Ext w w':=by
 have h:=rmulq_is hK hq w
 rwa [base_x.1,base_x.2.1,base_x.2.2] at h
theorem rmulp_is {K X Y : Nat} {f : Bool} (hK : K < top) {p q : Pt.Q} (hp : X = Pt.pX p.1 ∧ Y = Pt.pY p.1 ∧ f = Pt.pFar p.1) (hq : q = Pt.grp.mul K p) (w : World) : Calls Tryz.prog 98 #[nv K,qv X Y f] w fun e w' => e = .returned (qv (Pt.pX q.1) (Pt.pY q.1) (Pt.pFar q.1)) ∧ Ext w w':=by
 obtain ⟨rfl,rfl,rfl⟩:=hp
 exact rmulq_is hK hq w
theorem radd_at {a b c : Pt.Q} {x z : Nat} {f : Bool} (hc : c = Pt.grp.op a b) (hx : x = Pt.pX c.1) (hz : z = Pt.pY c.1) (hf : Pt.pFar c.1 = f) (w : World) : Calls Tryz.prog 102 #[qv (Pt.pX a.1) (Pt.pY a.1) (Pt.pFar a.1),qv (Pt.pX b.1) (Pt.pY b.1) (Pt.pFar b.1)] w fun e w' => e = .returned (qv x z f) ∧ Ext w w':=by
 subst hx hz hf hc; exact zht a b w
theorem ron_is {X Y : Nat} {f r : Bool} (h : onB X Y f = r) (hX : X < top) (hY : Y < top) (w : World) : Calls Tryz.prog 21 #[qv X Y f] w fun e w' => e = .returned (.bool r) ∧ Ext w w':=by
 subst h; exact ron_calls X Y f hX hY w
theorem rmay_is {X : Nat} {r : Bool} (h : mayB X = r) (hX : X < top) (w : World) : Calls Tryz.prog 95 #[nv X] w fun e w' => e = .returned (.bool r) ∧ Ext w w':=by
 subst h; exact may_calls X hX w
/-! ### numbers modulo n -/
theorem nn_1 : 1 < Pt.nn:=Pt.nn_one
theorem nn_pos : 0 < Pt.nn:=Nat.lt_trans Nat.zero_lt_one nn_1
theorem mod_nn {M X : Nat} (h : M = X % Pt.nn) : M < Pt.nn:=by rw [h]; exact Nat.mod_lt _ nn_pos
theorem mod_top {M X : Nat} (h : M = X % Pt.nn) : M < top:=Nat.lt_trans (mod_nn h) zej
theorem mul_top {M X Y : Nat} (h : M = X * Y % Pt.nn) : M < top:=mod_top h
theorem inv_nn {t S : Nat} (h : t = Pt.iG Pt.nn S) : t < Pt.nn:=by rw [h]; exact Pt.iG_lt Pt.nn S
theorem zja {t S : Nat} (h : t = Pt.iG Pt.nn S) : t < top:=Nat.lt_trans (inv_nn h) zej
theorem may_lt {X : Nat} (h : mayB X = true) : X < Pt.nn:=((Pt.inR_iff X).1 h).2
theorem may_ne {X : Nat} (h : mayB X = true) : X ≠ 0:=((Pt.inR_iff X).1 h).1
theorem rinn_is {X M : Nat} (hM : M = X % Pt.nn) (hX : X < top) (w : World) : Calls Tryz.prog 103 #[nv X,nv Pt.nn] w fun e w' => e = .returned (nv M) ∧ Ext w w':=by
 subst hM; exact gin_calls X Pt.nn hX nn_1 zej w
theorem rmuln_is {X Y Z : Nat} (hZ : Z = X * Y % Pt.nn) (hX : X < Pt.nn) (hY : Y < top) (w : World) : Calls Tryz.prog 72 #[nv X,nv Y,nv Pt.nn] w fun e w' => e = .returned (nv Z) ∧ Ext w w':=by
 subst hZ; exact gmul_calls X Y Pt.nn hX hY zej w
theorem rinvn_is {X t : Nat} (h0 : X ≠ 0) (hX : X < Pt.nn) (ht : t = Pt.iG Pt.nn X) (w : World) : Calls Tryz.prog 96 #[nv X,nv Pt.nn] w fun e w' => e = .returned (.tuple #[nv t,.bool true]) ∧ Ext w w':=by
 refine (zjy X Pt.nn hX nn_1 (by decide +kernel) zej w).mono ?_
 rintro e w' ⟨y,hy,hi,rfl,hb⟩
 have hg:=Pt.gcd_nn h0 hX
 have e1 : y = t:=by rw [ht]; exact Pt.iG_of Pt.nn Pt.nn_root Pt.nn_one hy (hi hg)
 rw [hg,e1]
 exact ⟨rfl,hb⟩
theorem rofd_is {y : Nat → Nat} {X : Nat} (hy : ∀ j,y j < 256) (hX : X = num32 y) {g : Nat} (w : World) (hb : w.heap[g]? = some (.cells (dgc y) 112 (0,0))) : Calls Tryz.prog 59 #[.slice (some ⟨g,0,none⟩) 32 32] w fun e w' => e = .returned (nv X) ∧ Ext w w':=by
 subst hX
 exact rof_some g 0 32 32 y hy (by decide) w (Array.getElem?_eq_some_iff.1 hb).1 (fun j hj => by rw [Nat.zero_add,cell_of_row w g j _ _ _ hb]; exact zdi _ hj)
theorem vmul_calls {X Y Z : Nat} (hZ : Z = X * Y % Pt.nn) (hX : X < Pt.nn) (hY : Y < top) (w : World) :
  Calls Tryz.prog 99 #[nv X,nv Y] w fun e w' => e = .returned (nv Z) ∧ Ext w w':=by
 have kZ:=veil hZ
 have kX:=veil hX
 have kY:=veil hY
 clear hY hX hZ
 unfold nv nc
 go_enter Tryz.func99,Tryz.ntmps99
 go_upto_region 1 with (fail)
 refine zfj fun w1 hx b0 b1 b2 => ?_
 have b0 : w1.heap[w.heap.size]? = some (.cells (nc X) 27 (0,0)):=b0
 have b1 : w1.heap[w.heap.size + 1]? = some (.cells (nc Y) 27 (0,0)):=b1
 refine' zet (m:=4) (A:=_) 4 (by kernel_rfl) (by kernel_rfl) (by kernel_rfl) ?h1 ?h2
 case h1 =>
  refine zab (nv X) rfl (zag rfl rfl b0 rfl uN rfl (iN _)) ?_
  refine zab (nv Y) rfl (zag rfl rfl b1 rfl uN rfl (iN _)) ?_;simp only [aP,lA,lZ,lS]
  refine zab (nv Pt.nn) rfl (zak (args:=[]) rfl rfl (fun W => zad Tryz.func97 rfl rfl _ W) (fun W hW => nn_is W)) ?_
  refine zab (nv Z) rfl (zak (args:=[nv X,nv Y,nv Pt.nn]) rfl rfl (fun W => zad Tryz.func72 rfl rfl _ W) (fun W hW => rmuln_is kZ.out kX.out kY.out W)) ?_;simp only [aP,lA,lZ,lS]
  exact zaw
 refine rest_store _ rfl rfl rfl rfl rfl (by kernel_rfl) (by kernel_rfl) rfl rfl rfl b2 (iN _) rfl (zek _) ?_
 intro w2 hB hb
 refine NoPanic.normal ?_
 go_wp2
 exact bodyPost_ret (results_cell_row rfl _ _ (w.heap.size + 1 + 1) 27 (nc Z) (0,0) _ rfl hb Tryz.underlying27 rfl (by kernel_rfl)) rfl ⟨rfl,hx.new hB (by omega)⟩
theorem vnum_calls (y : Nat → Nat) (hy : ∀ j,y j < 256) {X M : Nat} (hX : X = num32 y) (hM : M = X % Pt.nn) (w : World) :
  Calls Tryz.prog 100 #[dgv y] w fun e w' => e = .returned (nv M) ∧ Ext w w':=by
 have ky:=veil hy
 have kX:=veil hX
 have kM:=veil hM
 clear hM hX hy
 unfold nv nc dgv dgc
 go_enter Tryz.func100,Tryz.ntmps100
 go_upto_region 1 with (fail)
 refine zgd fun w1 hx b0 b1 => ?_
 have b0 : w1.heap[w.heap.size]? = some (.cells (dgc y) 112 (0,0)):=b0
 refine' zbc (m:=4) (A:=_) (by kernel_rfl) ?h1 ?h2
 case h1 =>
  refine zab (.slice (some ⟨w.heap.size,0,none⟩) 32 32) rfl (zhg rfl rfl (sliceD _ ·)) ?_
  refine zab (nv X) rfl (zak (args:=[.slice (some ⟨w.heap.size,0,none⟩) 32 32]) rfl rfl (fun W => zad Tryz.func59 rfl rfl _ W) (fun W hW => rofd_is ky.out kX.out W (hW.block b0))) ?_;simp only [aP,lA,lZ,lS]
  refine zab (nv Pt.nn) rfl (zak (args:=[]) rfl rfl (fun W => zad Tryz.func97 rfl rfl _ W) (fun W hW => nn_is W)) ?_
  refine zab (nv M) rfl (zak (args:=[nv X,nv Pt.nn]) rfl rfl (fun W => zad Tryz.func103 rfl rfl _ W) (fun W hW => rinn_is kM.out (by rw [kX.out]; exact num32_lt ky.out) W)) ?_;simp only [aP,lA,lZ,lS]
  exact zaw
 refine zda _ rfl rfl rfl rfl rfl rfl b1 (iN _) rfl (zek _) ?_
 intro w2 hB hb
 go_wp2
 exact bodyPost_ret (results_cell_row rfl _ _ (w.heap.size + 1) 27 (nc M) (0,0) _ rfl hb Tryz.underlying27 rfl (by kernel_rfl)) rfl ⟨rfl,hx.new hB (by omega)⟩
def V3 (w W : World) (X Y : Nat) (f : Bool) (y : Nat → Nat) (R S : Nat) : Prop :=
 Ext w W ∧ W.heap[w.heap.size]? = some (.cells (qc X Y f) 29 (0,0)) ∧ W.heap[w.heap.size + 1]? = some (.cells (dgc y) 112 (0,0)) ∧ W.heap[w.heap.size + 1 + 1]? = some (.cells (gc R S) 78 (0,0))
section
variable {w W W' : World} {X Y R S : Nat} {f : Bool} {y : Nat → Nat}
theorem V3.ext (h : V3 w W X Y f y R S) (k : Ext W W') : V3 w W' X Y f y R S:=⟨h.1.trans k,k.block h.2.1,k.block h.2.2.1,k.block h.2.2.2⟩
theorem V3.r (h : V3 w W X Y f y R S) : W.rangeAt (w.heap.size + 1 + 1) 0 (nc R).toList:=fun j v hv => by
 rw [Nat.zero_add,cell_of_row W _ j _ _ _ h.2.2.2]
 match j,hv with
 | 0,hv => exact hv
 | 1,hv => exact hv
 | 2,hv => exact hv
 | 3,hv => exact hv
theorem V3.s (h : V3 w W X Y f y R S) : W.rangeAt (w.heap.size + 1 + 1) 4 (nc S).toList:=fun j v hv => by
 rw [cell_of_row W _ (4 + j) _ _ _ h.2.2.2]
 match j,hv with
 | 0,hv => exact hv
 | 1,hv => exact hv
 | 2,hv => exact hv
 | 3,hv => exact hv
theorem V3.far (h : V3 w W X Y f y R S) : W.cell? ⟨w.heap.size,8,none⟩ = some (.bool f):=by rw [cell_of_row W _ 8 _ _ _ h.2.1]; rfl
end
theorem ver_bad {X Y R S : Nat} {f o a b : Bool} (hX : X < top) (hY : Y < top) (hR : R < top) (hS : S < top) (hon : onB X Y f = o) (hr : mayB R = a) (hs : mayB S = b) (hbad : (o && !f && a && b) = false) (y : Nat → Nat) (w : World) :
  Calls Tryz.prog 69 #[qv X Y f,dgv y,gv R S] w fun e w' => e = .returned (.bool false) ∧ Ext w w':=by
 have KO:=veil (fun W => show Calls Tryz.prog 21 #[.agg (qc X Y f)] W (fun e w' => e = .returned (.bool o) ∧ Ext W w') from ron_is hon hX hY W)
 have KR:=veil (fun W => show Calls Tryz.prog 95 #[.agg (nc R)] W (fun e w' => e = .returned (.bool a) ∧ Ext W w') from rmay_is hr hR W)
 have KS:=veil (fun W => show Calls Tryz.prog 95 #[.agg (nc S)] W (fun e w' => e = .returned (.bool b) ∧ Ext W w') from rmay_is hs hS W)
 clear hX hY hR hS hon hr hs
 show Calls _ _ #[.agg (qc X Y f),.agg (dgc y),.agg (gc R S)] w _
 go_enter Tryz.func69,Tryz.ntmps69
 go_upto_region 1 with (fail)
 have H1 : Hid (V3 w (((w.alloc (.cells (qc X Y f) 29)).alloc (.cells (dgc y) 112)).alloc (.cells (gc R S) 78)) X Y f y R S):=veil (blocks3 w _ _ _)
 generalize ((w.alloc (.cells (qc X Y f) 29)).alloc (.cells (dgc y) 112)).alloc (.cells (gc R S) 78) = w1 at *
 go_upto_region 2 with (first
  | ((with_reducible refine zas 15 ?_); refine wpList_load_row rfl 29 _ rfl w.heap.size rfl 29 (qc X Y f) (0,0) _ H1.out.2.1 Tryz.underlying29 rfl (iT X Y f) ?_)
  | (go_at_call 21; refine (KO.out _).mono ?_; rintro e w2 ⟨rfl,hE⟩))
 have H2:=veil (H1.out.ext hE)
 clear hE H1 KO
 go_upto_region 3 with (first
  | ((with_reducible refine zas 18 ?_); refine wpList_load_mid rfl 27 _ rfl (w.heap.size + 1 + 1) 0 rfl _ _ H2.out.r uN rfl (iN R) ?_)
  | (go_at_call 95; refine (KR.out _).mono ?_; rintro e w3 ⟨rfl,hE⟩))
 have H3:=veil (H2.out.ext hE)
 clear hE H2 KR
 go_upto_region 4 with (first
  | ((with_reducible refine zas 21 ?_); refine wpList_load_mid rfl 27 _ rfl (w.heap.size + 1 + 1) 4 rfl _ _ H3.out.s uN rfl (iN S) ?_)
  | (go_at_call 95; refine (KS.out _).mono ?_; rintro e w4 ⟨rfl,hE⟩))
 have H4:=veil (H3.out.ext hE)
 clear hE H3 KS
 have cf:=H4.out.far
 cases o <;> cases f <;> cases a <;> cases b <;> first
  | exact absurd hbad (by decide)
  | (clear hbad; go_wp2; go_ret; exact ⟨rfl,H4.out.1⟩)
theorem ver_good (y : Nat → Nat) {p a b c : Pt.Q} {X Y R S t M u v m : Nat} {ff : Bool} (hX : X < top) (hY : Y < top) (hon : onB X Y false = true) (hr : mayB R = true) (hs : mayB S = true) (hp : X = Pt.pX p.1 ∧ Y = Pt.pY p.1 ∧ false = Pt.pFar p.1) (hy : ∀ j,y j < 256) (hM : M = num32 y % Pt.nn) (ht : t = Pt.iG Pt.nn S) (hu : u = M * t % Pt.nn) (hv : v = R * t % Pt.nn) (ha : a = Pt.grp.mul u Pt.base) (hb : b = Pt.grp.mul v p) (hc : c = Pt.grp.op a b) (hfar : Pt.pFar c.1 = ff) (hm : m = Pt.pX c.1 % Pt.nn) {w : World} :
  Calls Tryz.prog 69 #[qv X Y false,dgv y,gv R S] w fun e w' => e = .returned (.bool (!ff && decide (m = R))) ∧ Ext w w':=by
 obtain ⟨x,hx0⟩ : ∃ x,x = Pt.pX c.1:=⟨_,rfl⟩
 obtain ⟨z,hz0⟩ : ∃ z,z = Pt.pY c.1:=⟨_,rfl⟩
 have kadd:=veil (fun W => radd_at (x:=x) (z:=z) hc hx0 hz0 hfar W)
 have km:=veil (show m = x % Pt.nn ∧ x < top from ⟨by rw [hx0]; exact hm,by rw [hx0]; exact (p_top _).1⟩)
 have kR:=veil (Nat.lt_trans (may_lt hr) zej)
 have kS:=veil (Nat.lt_trans (may_lt hs) zej)
 have KO:=veil (fun W => show Calls Tryz.prog 21 #[.agg (qc X Y false)] W (fun e w' => e = .returned (.bool true) ∧ Ext W w') from ron_is hon hX hY W)
 have KR:=veil (fun W => show Calls Tryz.prog 95 #[.agg (nc R)] W (fun e w' => e = .returned (.bool true) ∧ Ext W w') from rmay_is hr kR.out W)
 have KS:=veil (fun W => show Calls Tryz.prog 95 #[.agg (nc S)] W (fun e w' => e = .returned (.bool true) ∧ Ext W w') from rmay_is hs kS.out W)
 have kr:=veil hr
 have ks:=veil hs
 have kp:=veil hp
 have ky:=veil hy
 have kM:=veil hM
 have kt:=veil ht
 have ku:=veil hu
 have kv:=veil hv
 have ka:=veil ha
 have kb:=veil hb
 clear hb ha hv hu ht hM hy hp hs hr hon hY hX
 clear hc hfar hm hx0 hz0
 show Calls _ _ #[.agg (qc X Y false),.agg (dgc y),.agg (gc R S)] w _
 go_enter Tryz.func69,Tryz.ntmps69
 go_upto_region 1 with (fail)
 have H1 : Hid (V3 w (((w.alloc (.cells (qc X Y false) 29)).alloc (.cells (dgc y) 112)).alloc (.cells (gc R S) 78)) X Y false y R S):=veil (blocks3 w _ _ _)
 generalize ((w.alloc (.cells (qc X Y false) 29)).alloc (.cells (dgc y) 112)).alloc (.cells (gc R S) 78) = w1 at *
 go_upto_region 2 with (first
  | ((with_reducible refine zas 15 ?_); refine wpList_load_row rfl 29 _ rfl w.heap.size rfl 29 (qc X Y false) (0,0) _ H1.out.2.1 Tryz.underlying29 rfl (iT X Y false) ?_)
  | (go_at_call 21; refine (KO.out _).mono ?_; rintro e w2 ⟨rfl,hE⟩))
 have H2:=veil (H1.out.ext hE)
 clear hE H1 KO
 go_upto_region 3 with (first
  | ((with_reducible refine zas 18 ?_); refine wpList_load_mid rfl 27 _ rfl (w.heap.size + 1 + 1) 0 rfl _ _ H2.out.r uN rfl (iN R) ?_)
  | (go_at_call 95; refine (KR.out _).mono ?_; rintro e w3 ⟨rfl,hE⟩))
 have H3:=veil (H2.out.ext hE)
 clear hE H2 KR
 go_upto_region 4 with (first
  | ((with_reducible refine zas 21 ?_); refine wpList_load_mid rfl 27 _ rfl (w.heap.size + 1 + 1) 4 rfl _ _ H3.out.s uN rfl (iN S) ?_)
  | (go_at_call 95; refine (KS.out _).mono ?_; rintro e w4 ⟨rfl,hE⟩))
 have H4:=veil (H3.out.ext hE)
 clear hE H3 KS
 have cf:=H4.out.far
 go_upto_region 6 with (fail)
 clear cf
 obtain ⟨hx,b0,b1,b2⟩:=H4.out
 clear H4
 refine' zet (m:=6) (A:=_) 8 (by kernel_rfl) (by kernel_rfl) (by kernel_rfl) ?h1 ?h2
 case h1 =>
  refine zab (.pointer (some ⟨w.heap.size + 1 + 1,4,none⟩)) rfl (zan rfl rfl (fldG1 _ ·)) ?_
  refine zab (nv S) rfl (zag rfl rfl b2 rfl uN rfl (iN _)) ?_;simp only [aP,lA,lZ,lS]
  refine zab (nv Pt.nn) rfl (zak (args:=[]) rfl rfl (fun W => zad Tryz.func97 rfl rfl _ W) (fun W hW => nn_is W)) ?_
  refine zab (.tuple #[nv t,.bool true]) rfl (zak (args:=[nv S,nv Pt.nn]) rfl rfl (fun W => zad Tryz.func96 rfl rfl _ W) (fun W hW => rinvn_is (may_ne ks.out) (may_lt ks.out) kt.out W)) ?_;simp only [aP,lA,lZ,lS]
  refine zab (.tuple #[nv t,.bool true]) rfl (zaj (.inl rfl) rfl) ?_
  refine zab (nv t) rfl (zca rfl rfl rfl) ?_;simp only [aP,lA,lZ,lS]
  exact zaw
 refine rest_var2 (v:=.bool true) (vx:=.bool true) _ _ _ _ rfl rfl rfl rfl rfl rfl rfl rfl rfl rfl rfl rfl rfl rfl rfl rfl (by decide) (by kernel_rfl) (by kernel_rfl) (by kernel_rfl) (by kernel_rfl) (by kernel_rfl) (by kernel_rfl) (by kernel_rfl) rfl rfl rfl rfl rfl rfl (hzN ·) (run_ext rfl rfl rfl) (fun _ => run_ext rfl rfl rfl) (fun _ => rfl) (fun _ => rfl) (fun _ => rfl) (fun _ => rfl) (fun _ => rfl) (iN _) rfl (zek _) ?_
 intro gt w6 hgt bt hE
 refine NoPanic.normal ?_
 replace b0:=hE.block b0
 replace b1:=hE.block b1
 replace b2:=hE.block b2
 replace hx:=hx.trans hE
 clear hE
 simp only [aP,lA,lZ,lS]
 clear hgt
 go_upto_region 7 with (fail)
 refine' zet (m:=6) (A:=_) 7 (by kernel_rfl) (by kernel_rfl) (by kernel_rfl) ?h2a ?h2b
 case h2a =>
  refine zab (dgv y) rfl (zag rfl rfl b1 rfl Tryz.underlying112 rfl (iDg _)) ?_
  refine zab (nv M) rfl (zak (args:=[dgv y]) rfl rfl (fun W => zad Tryz.func100 rfl rfl _ W) (fun W hW => vnum_calls y ky.out rfl kM.out W)) ?_;simp only [aP,lA,lZ,lS]
  refine zab (nv t) rfl (zag rfl rfl bt rfl uN rfl (iN _)) ?_
  refine zab (nv u) rfl (zak (args:=[nv M,nv t]) rfl rfl (fun W => zad Tryz.func99 rfl rfl _ W) (fun W hW => vmul_calls ku.out (mod_nn kM.out) (zja kt.out) W)) ?_;simp only [aP,lA,lZ,lS]
  refine zab (qv Pt.gx Pt.gy false) rfl (zak (args:=[]) rfl rfl (fun W => zad Tryz.func101 rfl rfl _ W) (fun W hW => rbase_is W)) ?_
  refine zab (qv (Pt.pX a.1) (Pt.pY a.1) (Pt.pFar a.1)) rfl (zak (args:=[nv u,qv Pt.gx Pt.gy false]) rfl rfl (fun W => zad Tryz.func98 rfl rfl _ W) (fun W hW => rmulb_is (mul_top ku.out) ka.out W)) ?_;simp only [aP,lA,lZ,lS]
  exact zaw
 refine zhu _ _ rfl rfl rfl rfl rfl rfl rfl rfl rfl (by kernel_rfl) (by kernel_rfl) (by kernel_rfl) rfl rfl (hzT ·) (fun _ => rfl) (fun _ => rfl) (iT _ _ _) rfl (zcz _ _ _) ?_
 intro ga w7 hga ba hE
 refine NoPanic.normal ?_
 replace b0:=hE.block b0
 replace b2:=hE.block b2
 replace bt:=hE.block bt
 replace hx:=hx.trans hE
 clear hE
 simp only [aP,lA,lZ,lS]
 clear hga
 go_upto_region 8 with (fail)
 refine' zet (m:=6) (A:=_) 7 (by kernel_rfl) (by kernel_rfl) (by kernel_rfl) ?h3a ?h3b
 case h3a =>
  refine zab (ptrTo (w.heap.size + 1 + 1)) rfl (zan rfl rfl (fldG0 _ ·)) ?_
  refine zab (nv R) rfl (zag rfl rfl b2 rfl uN rfl (iN _)) ?_;simp only [aP,lA,lZ,lS]
  refine zab (nv t) rfl (zag rfl rfl bt rfl uN rfl (iN _)) ?_
  refine zab (nv v) rfl (zak (args:=[nv R,nv t]) rfl rfl (fun W => zad Tryz.func99 rfl rfl _ W) (fun W hW => vmul_calls kv.out (may_lt kr.out) (zja kt.out) W)) ?_;simp only [aP,lA,lZ,lS]
  refine zab (qv X Y false) rfl (zag rfl rfl b0 rfl Tryz.underlying29 rfl (iT _ _ _)) ?_
  refine zab (qv (Pt.pX b.1) (Pt.pY b.1) (Pt.pFar b.1)) rfl (zak (args:=[nv v,qv X Y false]) rfl rfl (fun W => zad Tryz.func98 rfl rfl _ W) (fun W hW => rmulp_is (mul_top kv.out) kp.out kb.out W)) ?_;simp only [aP,lA,lZ,lS]
  exact zaw
 refine zhu _ _ rfl rfl rfl rfl rfl rfl rfl rfl rfl (by kernel_rfl) (by kernel_rfl) (by kernel_rfl) rfl rfl (hzT ·) (fun _ => rfl) (fun _ => rfl) (iT _ _ _) rfl (zcz _ _ _) ?_
 intro gb w8 hgb bb hE
 refine NoPanic.normal ?_
 replace b2:=hE.block b2
 replace ba:=hE.block ba
 replace hx:=hx.trans hE
 clear hE
 simp only [aP,lA,lZ,lS]
 clear hgb
 go_upto_region 9 with (fail)
 refine' zbc (m:=3) (A:=_) (by kernel_rfl) ?h4a ?h4b
 case h4a =>
  refine zab (qv (Pt.pX a.1) (Pt.pY a.1) (Pt.pFar a.1)) rfl (zag rfl rfl ba rfl Tryz.underlying29 rfl (iT _ _ _)) ?_
  refine zab (qv (Pt.pX b.1) (Pt.pY b.1) (Pt.pFar b.1)) rfl (zag rfl rfl bb rfl Tryz.underlying29 rfl (iT _ _ _)) ?_;simp only [aP,lA,lZ,lS]
  refine zab (qv x z ff) rfl (zak (args:=[qv (Pt.pX a.1) (Pt.pY a.1) (Pt.pFar a.1),qv (Pt.pX b.1) (Pt.pY b.1) (Pt.pFar b.1)]) rfl rfl (fun W => zad Tryz.func102 rfl rfl _ W) (fun W hW => kadd.out W)) ?_;simp only [aP,lA,lZ,lS]
  exact zaw
 refine prest_var _ _ rfl rfl rfl rfl rfl rfl rfl (hzT ·) (fun _ => rfl) (fun _ => rfl) (iT _ _ _) rfl (zcz _ _ _) ?_
 intro gc w9 hgc bc hE
 replace b2:=hE.block b2
 replace hx:=hx.trans hE
 clear hE
 simp only [aP,lA,lZ,lS]
 clear hgc
 cases ff with
 | true =>
  go_upto_region 10 with (fail)
  refine' zch (m:=13) (A:=_) 13 (by kernel_rfl) (by kernel_rfl) ?h5a ?h5b
  case h5a =>
   refine zab (.pointer (some ⟨gc,8,none⟩)) rfl (zan rfl rfl (fldT2 _ ·)) ?_
   refine zab (.bool true) rfl (zbe rfl rfl bc rfl (zce ·)) ?_;simp only [aP,lA,lZ,lS]
   refine zab (.bool false) rfl (zbg rfl rfl rfl) ?_
   refine zab (.bool false) rfl (zaj (.inl rfl) rfl) ?_;simp only [aP,lA,lZ,lS]
   refine zav rfl ?_
   refine zav rfl ?_;simp only [aP,lA,lZ,lS]
   refine zav rfl ?_
   refine zav rfl ?_;simp only [aP,lA,lZ,lS]
   refine zav rfl ?_
   refine zav rfl ?_;simp only [aP,lA,lZ,lS]
   refine zav rfl ?_
   refine zab (.bool false) rfl (zax rfl rfl rfl) ?_;simp only [aP,lA,lZ,lS]
   refine zab (.bool false) rfl (zaj (.inr rfl) rfl) ?_;simp only [aP,lA,lZ,lS]
   exact zaw
  refine zby rfl (by kernel_rfl) ?_
  intro w10 hE
  refine NoPanic.normal ?_
  replace b2:=hE.block b2
  replace bc:=hE.block bc
  replace hx:=hx.trans hE
  clear hE
  go_wp2
  go_ret
  exact ⟨rfl,hx⟩
 | false =>
  go_upto_region 10 with (fail)
  refine' zch (m:=13) (A:=_) 13 (by kernel_rfl) (by kernel_rfl) ?h6a ?h6b
  case h6a =>
   refine zab (.pointer (some ⟨gc,8,none⟩)) rfl (zan rfl rfl (fldT2 _ ·)) ?_
   refine zab (.bool false) rfl (zbe rfl rfl bc rfl (zce ·)) ?_;simp only [aP,lA,lZ,lS]
   refine zab (.bool true) rfl (zbg rfl rfl rfl) ?_
   refine zab (.bool true) rfl (zaj (.inl rfl) rfl) ?_;simp only [aP,lA,lZ,lS]
   refine zam (ptrTo gc) rfl (zan rfl rfl (fldT0 _ ·)) ?_
   refine zam (nv x) rfl (zag rfl rfl bc rfl uN rfl (iN _)) ?_;simp only [aP,lA,lZ,lS]
   refine zam (nv Pt.nn) rfl (zak (args:=[]) rfl rfl (fun W => zad Tryz.func97 rfl rfl _ W) (fun W hW => nn_is W)) ?_
   refine zam (nv m) rfl (zak (args:=[nv x,nv Pt.nn]) rfl rfl (fun W => zad Tryz.func103 rfl rfl _ W) (fun W hW => rinn_is km.out.1 km.out.2 W)) ?_;simp only [aP,lA,lZ,lS]
   refine zam (ptrTo (w.heap.size + 1 + 1)) rfl (zan rfl rfl (fldG0 _ ·)) ?_
   refine zam (nv R) rfl (zag rfl rfl b2 rfl uN rfl (iN _)) ?_;simp only [aP,lA,lZ,lS]
   refine zam (.bool (decide (m = R))) rfl (made_eqn rfl rfl rfl (mod_top km.out.1) kR.out) ?_
   refine zab (.bool (decide (m = R))) rfl (zax rfl rfl rfl) ?_;simp only [aP,lA,lZ,lS]
   refine zab (.bool (decide (m = R))) rfl (zaj (.inr rfl) rfl) ?_;simp only [aP,lA,lZ,lS]
   exact zaw
  refine zby rfl (by kernel_rfl) ?_
  intro w10 hE
  refine NoPanic.normal ?_
  replace hx:=hx.trans hE
  clear hE
  go_wp2
  go_ret
  exact ⟨rfl,hx⟩
theorem inR_may (X : Nat) : Pt.inR X = mayB X:=rfl
theorem ver_no {X Y R S : Nat} {f : Bool} (hX : X < top) (hY : Y < top) (hR : R < top) (hS : S < top) (h : onB X Y f = false) (y : Nat → Nat) (w : World) :
  Calls Tryz.prog 69 #[qv X Y f,dgv y,gv R S] w fun e w' => e = .returned (.bool false) ∧ Ext w w':=ver_bad hX hY hR hS h rfl rfl rfl y w
theorem ver_yes (p : Pt.Q) {R S : Nat} (hR : R < top) (hS : S < top) (y : Nat → Nat) (hy : ∀ j,y j < 256) (w : World) :
  Calls Tryz.prog 69 #[pv p,dgv y,gv R S] w fun e w' => e = .returned (.bool (Pt.verB p (num32 y) R S)) ∧ Ext w w':=by
 have hon:=onB_of p
 have hX:=(p_top p.1).1
 have hY:=(p_top p.1).2
 unfold pv Pt.verB
 rw [inR_may,inR_may]
 cases hh : (!Pt.pFar p.1 && mayB R && mayB S) with
 | false =>
  exact ver_bad hX hY hR hS hon rfl rfl (by rw [Bool.true_and]; exact hh) y w
 | true =>
  simp only [Bool.and_eq_true] at hh
  have hf : Pt.pFar p.1 = false:=by simpa using hh.1.1
  rw [hf] at hon ⊢
  rw [Bool.true_and]
  exact ver_good (c:=Pt.sumOf p (num32 y) R S) y hX hY hon hh.1.2 hh.2 ⟨rfl,rfl,hf.symm⟩ hy rfl rfl rfl rfl rfl rfl rfl rfl rfl
def pick (D E : Nat) : List Nat → Option (Nat × Nat)
 | [] => none
 | k :: l => if (mayB (Pt.rOf k) && mayB (Pt.sOf D E k)) = true then some (Pt.rOf k,Pt.sOf D E k) else pick D E l
theorem gc_zero : #[Value.int .u64 0,vI vU 0,vI vU 0,vI vU 0,vI vU 0,vI vU 0,vI vU 0,vI vU 0] = gc 0 0:=by
 unfold gc
 rw [zke,zke,zke,zke]
end Go.Proofs.YthlbemnbmbmjhaaGreatDoor
