/-
  Of FAdd2.
-/
import Derived.Test.YtmfjigcdhijkjaaGreatDoorZS14
import Derived.Test.YtmfjigcdhijkjaaGreatDoorZS17
set_option maxRecDepth 1000000
set_option maxHeartbeats 20000000
namespace Go.Proofs.YtmfjigcdhijkjaaGreatDoor
open Go.RowKit
open Go.Value renaming int → vI
open Go.IntKind renaming u64 → vU
open Go.Act renaming put → aP
open List renaming setIfInBounds_toArray → lA, set_cons_zero → lZ, set_cons_succ → lS
theorem zhc (b X Y M : Nat) (N : Int) (Q Z : Nat) (hX : X < top) (hY : Y < top) (hK : Fok M N Q) (hZ : (X % M + Y % M) % M = Z) (w : World) (hF : Fb w b M N Q) :
  Calls Tryz.prog 83 #[.pointer (some ⟨b,0,none⟩),.agg #[vI vU (wd X 0),vI vU (wd X 1),vI vU (wd X 2),vI vU (wd X 3)],.agg #[vI vU (wd Y 0),vI vU (wd Y 1),vI vU (wd Y 2),vI vU (wd Y 3)]] w fun e w' => e = .returned (.agg #[vI vU (wd Z 0),vI vU (wd Z 1),vI vU (wd Z 2),vI vU (wd Z 3)]) ∧ Below w.heap.size w w':=by
 have hM0 : 0 < M:=by have:=hK.m2; omega
 have hX2:=Nat.mod_lt X hM0
 have hY2:=Nat.mod_lt Y hM0
 have K3:=veil (fun W (h : Fb W b M N Q) => fadd_calls b (X % M) (Y % M) M N Q Z hX2 hY2 hK.mt hZ W h)
 have HK:=veil hK
 clear hK hZ hM0 hX2 hY2
 have hA : (((w.alloc (.cells #[vI vU (wd X 0),vI vU (wd X 1),vI vU (wd X 2),vI vU (wd X 3)] 24)).alloc (.cells #[vI vU (wd Y 0),vI vU (wd Y 1),vI vU (wd Y 2),vI vU (wd Y 3)] 24)).alloc (.cells #[vI vU 0,vI vU 0,vI vU 0,vI vU 0] 24)).rowIs w.heap.size 24 4 (fun j => .int .u64 (wd X j)):=((zag (n:=4) (by simp) rfl (arr4 fun j => .int .u64 (wd X j))).alloc _).alloc _
 have hB : (((w.alloc (.cells #[vI vU (wd X 0),vI vU (wd X 1),vI vU (wd X 2),vI vU (wd X 3)] 24)).alloc (.cells #[vI vU (wd Y 0),vI vU (wd Y 1),vI vU (wd Y 2),vI vU (wd Y 3)] 24)).alloc (.cells #[vI vU 0,vI vU 0,vI vU 0,vI vU 0] 24)).rowIs (w.heap.size + 1) 24 4 (fun j => .int .u64 (wd Y j)):=(zag (n:=4) (by simp) rfl (arr4 fun j => .int .u64 (wd Y j))).alloc _
 have hR : (((w.alloc (.cells #[vI vU (wd X 0),vI vU (wd X 1),vI vU (wd X 2),vI vU (wd X 3)] 24)).alloc (.cells #[vI vU (wd Y 0),vI vU (wd Y 1),vI vU (wd Y 2),vI vU (wd Y 3)] 24)).alloc (.cells #[vI vU 0,vI vU 0,vI vU 0,vI vU 0] 24)).rowIs (w.heap.size + 1 + 1) 24 4 (fun _ => .int .u64 0):=zag (n:=4) (by simp) rfl (arr4 fun _ => .int .u64 0)
 have hbel : Below w.heap.size w (((w.alloc (.cells #[vI vU (wd X 0),vI vU (wd X 1),vI vU (wd X 2),vI vU (wd X 3)] 24)).alloc (.cells #[vI vU (wd Y 0),vI vU (wd Y 1),vI vU (wd Y 2),vI vU (wd Y 3)] 24)).alloc (.cells #[vI vU 0,vI vU 0,vI vU 0,vI vU 0] 24)):=(((Below.refl _ _).alloc (by simp) _).alloc (by simp) _).alloc (by simp; omega) _
 have hFr : Fb (((w.alloc (.cells #[vI vU (wd X 0),vI vU (wd X 1),vI vU (wd X 2),vI vU (wd X 3)] 24)).alloc (.cells #[vI vU (wd Y 0),vI vU (wd Y 1),vI vU (wd Y 2),vI vU (wd Y 3)] 24)).alloc (.cells #[vI vU 0,vI vU 0,vI vU 0,vI vU 0] 24)) b M N Q:=(((hF).alloc _).alloc _).alloc _
 have hbs:=hF.lt
 clear hF
 go_enter Tryz.func83,Tryz.ntmps83
 go_wp2_with fail
 generalize (((w.alloc (.cells #[vI vU (wd X 0),vI vU (wd X 1),vI vU (wd X 2),vI vU (wd X 3)] 24)).alloc (.cells #[vI vU (wd Y 0),vI vU (wd Y 1),vI vU (wd Y 2),vI vU (wd Y 3)] 24)).alloc (.cells #[vI vU 0,vI vU 0,vI vU 0,vI vU 0] 24)) = w0 at *
 obtain ⟨a0,a1,a2,a3⟩:=zae hA
 obtain ⟨b0,b1,b2,b3⟩:=zae hB
 obtain ⟨f0,f1,f2,f3⟩:=zaj hR
 obtain ⟨d0,d1,d2,d3⟩:=zae hR
 go_region_with (first
  | (go_at_call 113; refine (fcut_calls b _ M N Q _ (by assumption) HK.out rfl _ (by exact hFr)).mono ?_; rintro e w1 ⟨rfl,hb1⟩; replace hB:=zab (by exact hB) hb1 (by exact hB.lt); replace hA:=zab (by exact hA) hb1 (by exact hA.lt); replace hR:=zab (by exact hR) hb1 (by exact hR.lt); replace hFr:=Fb.below (by exact hFr) hb1 (by exact hFr.lt); replace hbel:=Below.trans (by first | exact hbel | exact hbel.drew) (hb1.mono (by exact hbel.size)); obtain ⟨b0,b1,b2,b3⟩:=zae hB; obtain ⟨a0,a1,a2,a3⟩:=zae hA)
  | (go_at_call 108; refine (K3.out _ (by exact hFr)).mono ?_; rintro e w3 ⟨rfl,hb3⟩; replace hR:=zab (by exact hR) hb3 (by exact hR.lt); replace hFr:=Fb.below (by exact hFr) hb3 (by exact hFr.lt); replace hbel:=Below.trans (by first | exact hbel | exact hbel.drew) (hb3.mono (by exact hbel.size)); obtain ⟨f0,f1,f2,f3⟩:=zaj hR; obtain ⟨d0,d1,d2,d3⟩:=zae hR))
 all_goals
  clear a0 a1 a2 a3 b0 b1 b2 b3 f0 f1 f2 f3 d0 d1 d2 d3
  go_wp2
  refine bodyPost_ret (results_cell_row rfl _ _ (w.heap.size + 1 + 1) 24 #[vI vU (wd Z 0),vI vU (wd Z 1),vI vU (wd Z 2),vI vU (wd Z 3)] (0,0) _ rfl (blk4 (put4 hR fun j => .int .u64 (wd (Z) j))) Tryz.underlying24 rfl (by kernel_rfl)) rfl ⟨rfl,zap hbel (by omega) _ _ _ _⟩
end Go.Proofs.YtmfjigcdhijkjaaGreatDoor
