/-
  Of G5.
-/
import Derived.Test.YtmfjigcdhijkjaaGreatDoorZV3
set_option maxRecDepth 1000000
set_option maxHeartbeats 20000000
namespace Go.Proofs.YtmfjigcdhijkjaaGreatDoor
open Go.RowKit
open Go.Act renaming put → aP
open List renaming setIfInBounds_toArray → lA, set_cons_zero → lZ, set_cons_succ → lS
theorem gmul_calls (X Y M : Nat) (hX : X < M) (hY : Y < top) (hM : M < top) (w : World) :
  Calls Tryz.prog 72 #[.agg #[.int .u64 (wd X 0),.int .u64 (wd X 1),.int .u64 (wd X 2),.int .u64 (wd X 3)],.agg #[.int .u64 (wd Y 0),.int .u64 (wd Y 1),.int .u64 (wd Y 2),.int .u64 (wd Y 3)],.agg #[.int .u64 (wd M 0),.int .u64 (wd M 1),.int .u64 (wd M 2),.int .u64 (wd M 3)]] w fun e w' => e = .returned (.agg #[.int .u64 (wd (X * Y % M) 0),.int .u64 (wd (X * Y % M) 1),.int .u64 (wd (X * Y % M) 2),.int .u64 (wd (X * Y % M) 3)]) ∧ Below w.heap.size w w':=by
 have hM0 : 0 < M:=by omega
 obtain ⟨P,hP⟩ : ∃ P,P = X * Y % M:=⟨_,rfl⟩
 rw [← hP]
 have HP:=veil hP
 clear hP
 have hA0 : (((((w.alloc (.cells #[.int .u64 (wd X 0),.int .u64 (wd X 1),.int .u64 (wd X 2),.int .u64 (wd X 3)] 24)).alloc (.cells #[.int .u64 (wd Y 0),.int .u64 (wd Y 1),.int .u64 (wd Y 2),.int .u64 (wd Y 3)] 24)).alloc (.cells #[.int .u64 (wd M 0),.int .u64 (wd M 1),.int .u64 (wd M 2),.int .u64 (wd M 3)] 24)).alloc (.cells #[.int .u64 0,.int .u64 0,.int .u64 0,.int .u64 0] 24)).alloc (.cells #[.int .u64 0,.int .u64 0,.int .u64 0,.int .u64 0] 24)).rowIs w.heap.size 24 4 (fun j => .int .u64 (wd X j)):=((((zai (n:=4) (by simp) rfl (arr4 fun j => .int .u64 (wd X j))).alloc _).alloc _).alloc _).alloc _
 have hB0 : (((((w.alloc (.cells #[.int .u64 (wd X 0),.int .u64 (wd X 1),.int .u64 (wd X 2),.int .u64 (wd X 3)] 24)).alloc (.cells #[.int .u64 (wd Y 0),.int .u64 (wd Y 1),.int .u64 (wd Y 2),.int .u64 (wd Y 3)] 24)).alloc (.cells #[.int .u64 (wd M 0),.int .u64 (wd M 1),.int .u64 (wd M 2),.int .u64 (wd M 3)] 24)).alloc (.cells #[.int .u64 0,.int .u64 0,.int .u64 0,.int .u64 0] 24)).alloc (.cells #[.int .u64 0,.int .u64 0,.int .u64 0,.int .u64 0] 24)).rowIs (w.heap.size + 1) 24 4 (fun j => .int .u64 (wd Y j)):=(((zai (n:=4) (by simp) rfl (arr4 fun j => .int .u64 (wd Y j))).alloc _).alloc _).alloc _
 have hC0 : (((((w.alloc (.cells #[.int .u64 (wd X 0),.int .u64 (wd X 1),.int .u64 (wd X 2),.int .u64 (wd X 3)] 24)).alloc (.cells #[.int .u64 (wd Y 0),.int .u64 (wd Y 1),.int .u64 (wd Y 2),.int .u64 (wd Y 3)] 24)).alloc (.cells #[.int .u64 (wd M 0),.int .u64 (wd M 1),.int .u64 (wd M 2),.int .u64 (wd M 3)] 24)).alloc (.cells #[.int .u64 0,.int .u64 0,.int .u64 0,.int .u64 0] 24)).alloc (.cells #[.int .u64 0,.int .u64 0,.int .u64 0,.int .u64 0] 24)).rowIs (w.heap.size + 1 + 1) 24 4 (fun j => .int .u64 (wd M j)):=((zai (n:=4) (by simp) rfl (arr4 fun j => .int .u64 (wd M j))).alloc _).alloc _
 have hR0 : (((((w.alloc (.cells #[.int .u64 (wd X 0),.int .u64 (wd X 1),.int .u64 (wd X 2),.int .u64 (wd X 3)] 24)).alloc (.cells #[.int .u64 (wd Y 0),.int .u64 (wd Y 1),.int .u64 (wd Y 2),.int .u64 (wd Y 3)] 24)).alloc (.cells #[.int .u64 (wd M 0),.int .u64 (wd M 1),.int .u64 (wd M 2),.int .u64 (wd M 3)] 24)).alloc (.cells #[.int .u64 0,.int .u64 0,.int .u64 0,.int .u64 0] 24)).alloc (.cells #[.int .u64 0,.int .u64 0,.int .u64 0,.int .u64 0] 24)).rowIs (w.heap.size + 1 + 1 + 1) 24 4 (fun _ => .int .u64 0):=(zai (n:=4) (by simp) rfl (arr4 fun _ => .int .u64 0)).alloc _
 have hO0 : (((((w.alloc (.cells #[.int .u64 (wd X 0),.int .u64 (wd X 1),.int .u64 (wd X 2),.int .u64 (wd X 3)] 24)).alloc (.cells #[.int .u64 (wd Y 0),.int .u64 (wd Y 1),.int .u64 (wd Y 2),.int .u64 (wd Y 3)] 24)).alloc (.cells #[.int .u64 (wd M 0),.int .u64 (wd M 1),.int .u64 (wd M 2),.int .u64 (wd M 3)] 24)).alloc (.cells #[.int .u64 0,.int .u64 0,.int .u64 0,.int .u64 0] 24)).alloc (.cells #[.int .u64 0,.int .u64 0,.int .u64 0,.int .u64 0] 24)).rowIs (w.heap.size + 1 + 1 + 1 + 1) 24 4 (fun _ => .int .u64 0):=zai (n:=4) (by simp) rfl (arr4 fun _ => .int .u64 0)
 have hb0 : Below w.heap.size w (((((w.alloc (.cells #[.int .u64 (wd X 0),.int .u64 (wd X 1),.int .u64 (wd X 2),.int .u64 (wd X 3)] 24)).alloc (.cells #[.int .u64 (wd Y 0),.int .u64 (wd Y 1),.int .u64 (wd Y 2),.int .u64 (wd Y 3)] 24)).alloc (.cells #[.int .u64 (wd M 0),.int .u64 (wd M 1),.int .u64 (wd M 2),.int .u64 (wd M 3)] 24)).alloc (.cells #[.int .u64 0,.int .u64 0,.int .u64 0,.int .u64 0] 24)).alloc (.cells #[.int .u64 0,.int .u64 0,.int .u64 0,.int .u64 0] 24)):=(((((Below.refl _ _).alloc (by simp) _).alloc (by simp) _).alloc (by simp; omega) _).alloc (by simp; omega) _).alloc (by simp; omega) _
 go_enter Tryz.func72,Tryz.ntmps72
 go_wp2
 generalize (((((w.alloc (.cells #[.int .u64 (wd X 0),.int .u64 (wd X 1),.int .u64 (wd X 2),.int .u64 (wd X 3)] 24)).alloc (.cells #[.int .u64 (wd Y 0),.int .u64 (wd Y 1),.int .u64 (wd Y 2),.int .u64 (wd Y 3)] 24)).alloc (.cells #[.int .u64 (wd M 0),.int .u64 (wd M 1),.int .u64 (wd M 2),.int .u64 (wd M 3)] 24)).alloc (.cells #[.int .u64 0,.int .u64 0,.int .u64 0,.int .u64 0] 24)).alloc (.cells #[.int .u64 0,.int .u64 0,.int .u64 0,.int .u64 0] 24)) = w0 at *
 go_loopw [8] (fun i wr => ∃ k : Nat,k ≤ 4 ∧ i = .int .i64 ((k : Int) - 1) ∧ wr.rowIs w.heap.size 24 4 (fun j => .int .u64 (wd X j)) ∧ wr.rowIs (w.heap.size + 1) 24 4 (fun j => .int .u64 (wd Y j)) ∧ wr.rowIs (w.heap.size + 1 + 1) 24 4 (fun j => .int .u64 (wd M j)) ∧ wr.rowIs (w.heap.size + 1 + 1 + 1) 24 4 (fun _ => .int .u64 0) ∧ wr.rowIs (w.heap.size + 1 + 1 + 1 + 1) 24 4 (fun j => .int .u64 (wd (acc X Y M (64 * k)) j)) ∧ Below w.heap.size w wr)
  (fun i _ => (intOf i + 1).toNat)
 case atStart => exact ⟨4,by omega,rfl,hA0,hB0,hC0,hR0,hO0.congr (fun j hj => by rw [acc_start X Y M _ hY]; unfold wd dg; simp),hb0⟩
 case round =>
  obtain ⟨k,hk,hi,hA,hB,hC,hR,hO,hbel⟩:=hrel
  clear hA0 hB0 hC0 hR0 hO0 hb0
  cases k with
  | zero =>
   subst hi
   have hO:=hO.congr (g:=fun j => .int .u64 (wd P j)) (fun j _ => by rw [Nat.mul_zero,acc_end,← HP.out])
   obtain ⟨o0,o1,o2,o3⟩:=zag hO
   obtain ⟨d0,d1,d2,d3⟩:=zag hR
   obtain ⟨f0,f1,f2,f3⟩:=zaq hR
   go_wp2
   refine bodyPost_ret (results_cell_row rfl _ _ (w.heap.size + 1 + 1 + 1) 24 #[.int .u64 (wd P 0),.int .u64 (wd P 1),.int .u64 (wd P 2),.int .u64 (wd P 3)] (0,0) _ rfl (blk4 (put4 hR fun j => .int .u64 (wd P j))) Tryz.underlying24 rfl (by kernel_rfl)) rfl ⟨rfl,zas hbel (by omega) _ _ _ _⟩
  | succ k =>
   obtain rfl : _ = Value.int .i64 (k : Int):=hi.trans (by congr 1; omega)
   clear hi
   have hk4 : k < 4:=by omega
   have c1:=hB.cell hk4
   go_wp2
   clear c1
   obtain ⟨wo,hwo⟩ : ∃ wo : World,wo = wr:=⟨_,rfl⟩
   rw [← hwo] at hA hB hC hR hO hbel ⊢
   clear hwo
   go_loopw [9,10] (fun q kk wq => ∃ m : Nat,m ≤ 64 ∧ kk = .int .i64 m ∧ q = .int .u64 (mw Y k m : Nat) ∧ wq.rowIs w.heap.size 24 4 (fun j => .int .u64 (wd X j)) ∧ wq.rowIs (w.heap.size + 1) 24 4 (fun j => .int .u64 (wd Y j)) ∧ wq.rowIs (w.heap.size + 1 + 1) 24 4 (fun j => .int .u64 (wd M j)) ∧ wq.rowIs (w.heap.size + 1 + 1 + 1) 24 4 (fun _ => .int .u64 0) ∧ wq.rowIs (w.heap.size + 1 + 1 + 1 + 1) 24 4 (fun j => .int .u64 (wd (acc X Y M (64 * (k + 1) - m)) j)) ∧ Below w.heap.size w wq)
    (fun _ kk _ => 64 - (intOf kk).toNat)
   case atStart => exact ⟨0,by omega,rfl,by rw [mw_zero]; rfl,hA,hB,hC,hR,hO,hbel⟩
   case round =>
    obtain ⟨m,hm,rfl,rfl,hA,hB,hC,hR,hO,hbel⟩:=hrel
    by_cases hlt : m < 64
    ·
     have hq:=mw_lt Y k m
     have hs : IntKind.u64.wrap ((mw Y k m : Nat) + (mw Y k m : Nat)) = ((mw Y k (m + 1) : Nat) : Int):=by
      rw [IntKind.wrap_u64,← mw_succ]; generalize mw Y k m = z; omega
     have ht:=mw_top Y k m hlt
     obtain ⟨z,hz⟩ : ∃ z : Int,z = ((mw Y k m : Nat) : Int):=⟨_,rfl⟩
     rw [← hz] at hs ⊢
     have hz0 : 0 ≤ z:=by omega
     have hz1 : z < 18446744073709551616:=by omega
     obtain ⟨n,hn⟩ : ∃ n,n = 64 * k + (63 - m):=⟨_,rfl⟩
     rw [← hn] at ht
     rw [show 64 * (k + 1) - m = n + 1 by omega] at hO
     have hVM:=acc_lt (X:=X) (Y:=Y) (n:=n + 1) hM0
     have e1:=acc_twice X Y M n
     have e2:=acc_more X Y M n
     generalize acc X Y M (n + 1) = V at *
     obtain ⟨D,hD⟩ : ∃ D,D = (V + V) % M:=⟨_,rfl⟩
     rw [← hD] at e1 e2
     have hDM : D < M:=by rw [hD]; exact Nat.mod_lt _ hM0
     have h1:=fun W => zek V V M hVM hVM hM W
     rw [← hD] at h1
     have H1:=veil h1
     clear h1
     obtain ⟨o0,o1,o2,o3⟩:=zag hO
     obtain ⟨c0,c1,c2,c3⟩:=zag hC
     by_cases hbit : 9223372036854775808 ≤ mw Y k m
     ·
      have h2:=fun W => zek D X M hDM hX hM W
      rw [e2 (ht.1 hbit)] at h2
      have H2:=veil h2
      have hbI : 9223372036854775808 ≤ z:=by omega
      clear h2 e1 e2 hD ht hq hbit hz
      have hN:=veil hn
      clear hn
      obtain ⟨T,hT⟩ : ∃ T,T = acc X Y M n:=⟨_,rfl⟩
      rw [← hT] at H2
      have HT:=veil hT
      clear hT
      go_wp2_with fail
      refine (H1.out _).mono ?_
      rintro e w1 ⟨rfl,hb1⟩
      clear o0 o1 o2 o3 c0 c1 c2 c3
      replace hA:=zad hA hb1 hA.lt
      replace hB:=zad hB hb1 hB.lt
      replace hC:=zad hC hb1 hC.lt
      replace hR:=zad hR hb1 hR.lt
      replace hO:=zad hO hb1 hO.lt
      replace hbel:=hbel.trans (hb1.mono hbel.size)
      clear hb1
      obtain ⟨o0,o1,o2,o3⟩:=zag hO
      obtain ⟨f0,f1,f2,f3⟩:=zaq hO
      go_upto_region 10 with (fail)
      replace hA:=zar hA (b':=w.heap.size + 1 + 1 + 1 + 1) (by omega) (.int .u64 (wd D 0)) (.int .u64 (wd D 1)) (.int .u64 (wd D 2)) (.int .u64 (wd D 3))
      replace hB:=zar hB (b':=w.heap.size + 1 + 1 + 1 + 1) (by omega) (.int .u64 (wd D 0)) (.int .u64 (wd D 1)) (.int .u64 (wd D 2)) (.int .u64 (wd D 3))
      replace hC:=zar hC (b':=w.heap.size + 1 + 1 + 1 + 1) (by omega) (.int .u64 (wd D 0)) (.int .u64 (wd D 1)) (.int .u64 (wd D 2)) (.int .u64 (wd D 3))
      replace hR:=zar hR (b':=w.heap.size + 1 + 1 + 1 + 1) (by omega) (.int .u64 (wd D 0)) (.int .u64 (wd D 1)) (.int .u64 (wd D 2)) (.int .u64 (wd D 3))
      replace hbel:=zas (b:=w.heap.size + 1 + 1 + 1 + 1) hbel (by omega) (.int .u64 (wd D 0)) (.int .u64 (wd D 1)) (.int .u64 (wd D 2)) (.int .u64 (wd D 3))
      replace hO:=put4 hO (fun j => .int .u64 (wd D j))
      clear o0 o1 o2 o3 f0 f1 f2 f3
      generalize (((w1.setCell ⟨w.heap.size + 1 + 1 + 1 + 1,0,none⟩ (.int .u64 (wd D 0))).setCell ⟨w.heap.size + 1 + 1 + 1 + 1,1,none⟩ (.int .u64 (wd D 1))).setCell ⟨w.heap.size + 1 + 1 + 1 + 1,2,none⟩ (.int .u64 (wd D 2))).setCell ⟨w.heap.size + 1 + 1 + 1 + 1,3,none⟩ (.int .u64 (wd D 3)) = v1 at *
      obtain ⟨o0,o1,o2,o3⟩:=zag hO
      obtain ⟨c0,c1,c2,c3⟩:=zag hC
      obtain ⟨a0,a1,a2,a3⟩:=zag hA
      go_wp2_with fail
      refine (H2.out _).mono ?_
      rintro e w2 ⟨rfl,hb2⟩
      clear o0 o1 o2 o3 c0 c1 c2 c3 a0 a1 a2 a3
      replace hA:=zad hA hb2 hA.lt
      replace hB:=zad hB hb2 hB.lt
      replace hC:=zad hC hb2 hC.lt
      replace hR:=zad hR hb2 hR.lt
      replace hO:=zad hO hb2 hO.lt
      replace hbel:=hbel.trans (hb2.mono hbel.size)
      clear hb2
      obtain ⟨o0,o1,o2,o3⟩:=zag hO
      obtain ⟨f0,f1,f2,f3⟩:=zaq hO
      go_upto_region 12 with (fail)
      replace hA:=zar hA (b':=w.heap.size + 1 + 1 + 1 + 1) (by omega) (.int .u64 (wd T 0)) (.int .u64 (wd T 1)) (.int .u64 (wd T 2)) (.int .u64 (wd T 3))
      replace hB:=zar hB (b':=w.heap.size + 1 + 1 + 1 + 1) (by omega) (.int .u64 (wd T 0)) (.int .u64 (wd T 1)) (.int .u64 (wd T 2)) (.int .u64 (wd T 3))
      replace hC:=zar hC (b':=w.heap.size + 1 + 1 + 1 + 1) (by omega) (.int .u64 (wd T 0)) (.int .u64 (wd T 1)) (.int .u64 (wd T 2)) (.int .u64 (wd T 3))
      replace hR:=zar hR (b':=w.heap.size + 1 + 1 + 1 + 1) (by omega) (.int .u64 (wd T 0)) (.int .u64 (wd T 1)) (.int .u64 (wd T 2)) (.int .u64 (wd T 3))
      replace hbel:=zas (b:=w.heap.size + 1 + 1 + 1 + 1) hbel (by omega) (.int .u64 (wd T 0)) (.int .u64 (wd T 1)) (.int .u64 (wd T 2)) (.int .u64 (wd T 3))
      replace hO:=put4 hO (fun j => .int .u64 (wd T j))
      clear o0 o1 o2 o3 f0 f1 f2 f3
      generalize (((w2.setCell ⟨w.heap.size + 1 + 1 + 1 + 1,0,none⟩ (.int .u64 (wd T 0))).setCell ⟨w.heap.size + 1 + 1 + 1 + 1,1,none⟩ (.int .u64 (wd T 1))).setCell ⟨w.heap.size + 1 + 1 + 1 + 1,2,none⟩ (.int .u64 (wd T 2))).setCell ⟨w.heap.size + 1 + 1 + 1 + 1,3,none⟩ (.int .u64 (wd T 3)) = v2 at *
      obtain ⟨o0,o1,o2,o3⟩:=zag hO
      obtain ⟨c0,c1,c2,c3⟩:=zag hC
      go_wp2
      go_roundw
      case rel => exact ⟨m + 1,by omega,by go_num,rfl,hA,hB,hC,hR,by rw [show 64 * (k + 1) - (m + 1) = n by have:=hN.out; omega,← HT.out]; exact hO,hbel⟩
      case measure => simp [intOf]; omega
     ·
      have e1:=e1 (by have:=ht.2; omega)
      have hbI : z < 9223372036854775808:=by omega
      have hN:=veil hn
      have E1:=veil e1
      clear e1 e2 hD ht hq hbit hz hn
      go_wp2_with fail
      refine (H1.out _).mono ?_
      rintro e w1 ⟨rfl,hb1⟩
      clear o0 o1 o2 o3 c0 c1 c2 c3
      replace hA:=zad hA hb1 hA.lt
      replace hB:=zad hB hb1 hB.lt
      replace hC:=zad hC hb1 hC.lt
      replace hR:=zad hR hb1 hR.lt
      replace hO:=zad hO hb1 hO.lt
      replace hbel:=hbel.trans (hb1.mono hbel.size)
      clear hb1
      obtain ⟨o0,o1,o2,o3⟩:=zag hO
      obtain ⟨f0,f1,f2,f3⟩:=zaq hO
      go_upto_region 10 with (fail)
      replace hA:=zar hA (b':=w.heap.size + 1 + 1 + 1 + 1) (by omega) (.int .u64 (wd D 0)) (.int .u64 (wd D 1)) (.int .u64 (wd D 2)) (.int .u64 (wd D 3))
      replace hB:=zar hB (b':=w.heap.size + 1 + 1 + 1 + 1) (by omega) (.int .u64 (wd D 0)) (.int .u64 (wd D 1)) (.int .u64 (wd D 2)) (.int .u64 (wd D 3))
      replace hC:=zar hC (b':=w.heap.size + 1 + 1 + 1 + 1) (by omega) (.int .u64 (wd D 0)) (.int .u64 (wd D 1)) (.int .u64 (wd D 2)) (.int .u64 (wd D 3))
      replace hR:=zar hR (b':=w.heap.size + 1 + 1 + 1 + 1) (by omega) (.int .u64 (wd D 0)) (.int .u64 (wd D 1)) (.int .u64 (wd D 2)) (.int .u64 (wd D 3))
      replace hbel:=zas (b:=w.heap.size + 1 + 1 + 1 + 1) hbel (by omega) (.int .u64 (wd D 0)) (.int .u64 (wd D 1)) (.int .u64 (wd D 2)) (.int .u64 (wd D 3))
      replace hO:=put4 hO (fun j => .int .u64 (wd D j))
      clear o0 o1 o2 o3 f0 f1 f2 f3
      generalize (((w1.setCell ⟨w.heap.size + 1 + 1 + 1 + 1,0,none⟩ (.int .u64 (wd D 0))).setCell ⟨w.heap.size + 1 + 1 + 1 + 1,1,none⟩ (.int .u64 (wd D 1))).setCell ⟨w.heap.size + 1 + 1 + 1 + 1,2,none⟩ (.int .u64 (wd D 2))).setCell ⟨w.heap.size + 1 + 1 + 1 + 1,3,none⟩ (.int .u64 (wd D 3)) = v1 at *
      obtain ⟨o0,o1,o2,o3⟩:=zag hO
      obtain ⟨c0,c1,c2,c3⟩:=zag hC
      go_wp2
      go_roundw
      case rel => exact ⟨m + 1,by omega,by go_num,rfl,hA,hB,hC,hR,by rw [show 64 * (k + 1) - (m + 1) = n by have:=hN.out; omega,← E1.out]; exact hO,hbel⟩
      case measure => simp [intOf]; omega
    ·
     obtain rfl : m = 64:=by omega
     go_wp2
     go_roundw
     case rel => exact ⟨k,by omega,by go_num,hA,hB,hC,hR,by rw [show 64 * (k + 1) - 64 = 64 * k by omega] at hO; exact hO,hbel⟩
     case measure => simp [intOf]
end Go.Proofs.YtmfjigcdhijkjaaGreatDoor
