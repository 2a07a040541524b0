/-
  Of FCut FCutn FAdd2 NS4 W0 KH W2 KR KS.
-/
import Derived.Deep.CutRange
import Derived.Deep.QuietTactic
import Derived.BigQuiet
import Derived.Deep.RegionWith
import Derived.Test.YtedehdbajiaaiaaGreatDoorZK13
import Derived.Test.YtedehdbajiaaiaaGreatDoorZK12
import Derived.Test.YtedehdbajiaaiaaGreatDoorZK4
import Derived.Test.YtedehdbajiaaiaaGreatDoorZK8
import Derived.Test.YtedehdbajiaaiaaGreatDoorZK9
import Derived.Test.YtedehdbajiaaiaaGreatDoorZK7
import Derived.Test.YtedehdbajiaaiaaGreatDoorZK6
import Derived.Test.YtedehdbajiaaiaaGreatDoorZK11
set_option maxRecDepth 1000000
set_option maxHeartbeats 20000000
namespace Go.Proofs.YtedehdbajiaaiaaGreatDoor
open Go.RowKit
open Go.Value renaming int → vI
open Go.IntKind renaming u64 → vU
open Go.Act renaming put → aP
open List renaming setIfInBounds_toArray → lA, set_cons_zero → lZ, set_cons_succ → lS
theorem kshr (b X M : Nat) (N : Int) (Q V Z : Nat) (hV : V * top % M = X % M) (hlt : X < M * top) (hX : X < top8) (hZ : V % M = Z) (hK : Fok M N Q) (w : World) (hF : Fb w b M N Q) :
  Calls Tryz.prog 156 #[.pointer (some ⟨b,0,none⟩),.agg #[vI vU (wd X 0),vI vU (wd X 1),vI vU (wd X 2),vI vU (wd X 3),vI vU (wd X 4),vI vU (wd X 5),vI vU (wd X 6),vI vU (wd X 7)]] w fun e w' => e = .returned (.agg #[vI vU (wd Z 0),vI vU (wd Z 1),vI vU (wd Z 2),vI vU (wd Z 3)]) ∧ Below w.heap.size w w':=by
 refine (shrunk_any b X M N Q hX hK w hF).mono ?_
 rintro e w' ⟨⟨Z',h1,h2,h3,rfl⟩,hb⟩
 have e1:=cut_top hK.odd (h2.trans hV.symm)
 rw [Nat.mod_eq_of_lt (h3 hlt),hZ] at e1
 subst e1
 exact ⟨rfl,hb⟩
theorem sq_num {Z X M : Nat} {N : Int} {Q : Nat} (hK : Fok M N Q) (h : Z * top % M = X % M) : X * top % M = Z * Q % M:=by
 rw [hK.q,Nat.mul_mod_mod,ziq,← Nat.mul_assoc,← Nat.mod_mul_mod (Z * top),h,Nat.mod_mul_mod]
theorem mul_lt8 {X Y : Nat} (hX : X < top) (hY : Y < top) : X * Y < top8:=by
 rw [ziq]; exact Nat.mul_lt_mul'' hX hY
theorem mul_ltm {X Q M : Nat} (hX : X < top) (hQ : Q < M) : X * Q < M * top:=by
 rw [Nat.mul_comm M]; exact Nat.mul_lt_mul'' hX hQ
theorem cutw_calls (b X M : Nat) (N : Int) (Q P : Nat) (hX : X < top8) (hK : Fok M N Q) (hP : X % M = P) (w : World) (hF : Fb w b M N Q) :
  Calls Tryz.prog 135 #[.pointer (some ⟨b,0,none⟩),.agg #[vI vU (wd X 0),vI vU (wd X 1),vI vU (wd X 2),vI vU (wd X 3),vI vU (wd X 4),vI vU (wd X 5),vI vU (wd X 6),vI vU (wd X 7)]] w fun e w' => e = .returned (.agg #[vI vU (wd P 0),vI vU (wd P 1),vI vU (wd P 2),vI vU (wd P 3)]) ∧ Below w.heap.size w w':=by
 have hQ:=hK.qm
 have hQt : Q < top:=by have:=hK.mt; omega
 have HX:=veil hX
 have HQ:=veil hQ
 have HP:=veil hP
 clear hX hQ hP
 have hA : ((w.alloc (.cells #[vI vU (wd X 0),vI vU (wd X 1),vI vU (wd X 2),vI vU (wd X 3),vI vU (wd X 4),vI vU (wd X 5),vI vU (wd X 6),vI vU (wd X 7)] 131)).alloc (.cells #[vI vU 0,vI vU 0,vI vU 0,vI vU 0] 26)).rowIs w.heap.size 131 8 (fun j => .int .u64 (wd X j)):=(zan (n:=8) (by simp) rfl (arr8 fun j => .int .u64 (wd X j))).alloc _
 have hR : ((w.alloc (.cells #[vI vU (wd X 0),vI vU (wd X 1),vI vU (wd X 2),vI vU (wd X 3),vI vU (wd X 4),vI vU (wd X 5),vI vU (wd X 6),vI vU (wd X 7)] 131)).alloc (.cells #[vI vU 0,vI vU 0,vI vU 0,vI vU 0] 26)).rowIs (w.heap.size + 1) 26 4 (fun _ => .int .u64 0):=zan (n:=4) (by simp) rfl (arr4 fun _ => .int .u64 0)
 have hbel : Below w.heap.size w ((w.alloc (.cells #[vI vU (wd X 0),vI vU (wd X 1),vI vU (wd X 2),vI vU (wd X 3),vI vU (wd X 4),vI vU (wd X 5),vI vU (wd X 6),vI vU (wd X 7)] 131)).alloc (.cells #[vI vU 0,vI vU 0,vI vU 0,vI vU 0] 26)):=((Below.refl _ _).alloc (by simp) _).alloc (by simp) _
 have hFr : Fb ((w.alloc (.cells #[vI vU (wd X 0),vI vU (wd X 1),vI vU (wd X 2),vI vU (wd X 3),vI vU (wd X 4),vI vU (wd X 5),vI vU (wd X 6),vI vU (wd X 7)] 131)).alloc (.cells #[vI vU 0,vI vU 0,vI vU 0,vI vU 0] 26)) b M N Q:=((hF).alloc _).alloc _
 have hbs:=hF.lt
 clear hF
 go_enter Tryz.func135,Tryz.ntmps135
 go_wp2_with fail
 generalize ((w.alloc (.cells #[vI vU (wd X 0),vI vU (wd X 1),vI vU (wd X 2),vI vU (wd X 3),vI vU (wd X 4),vI vU (wd X 5),vI vU (wd X 6),vI vU (wd X 7)] 131)).alloc (.cells #[vI vU 0,vI vU 0,vI vU 0,vI vU 0] 26)) = w0 at *
 obtain ⟨a0,a1,a2,a3,a4,a5,a6,a7⟩:=row_c8 hA
 obtain ⟨s0,s1,s2,s3⟩:=hFr.sq
 obtain ⟨f0,f1,f2,f3⟩:=zax hR
 obtain ⟨d0,d1,d2,d3⟩:=zai hR
 go_region_with (first
  | (go_at_call 156; refine (kshr b (Z * Q) M N Q X P (sq_num hK HZ.out) (mul_ltm hZt HQ.out) (mul_lt8 hZt hQt) HP.out hK _ (by exact hFr)).mono ?_; rintro e w3 ⟨rfl,hb3⟩; replace hR:=zag (by exact hR) hb3 (by exact hR.lt); replace hFr:=Fb.below (by exact hFr) hb3 (by exact hFr.lt); replace hbel:=Below.trans (by first | exact hbel | exact hbel.drew) (hb3.mono (by exact hbel.size)); obtain ⟨f0,f1,f2,f3⟩:=zax hR; obtain ⟨d0,d1,d2,d3⟩:=zai hR)
  | (go_at_call 156; refine (shrunk_any b X M N Q HX.out hK _ (by exact hFr)).mono ?_; rintro e w1 ⟨⟨Z,hZt,hZ1,_,rfl⟩,hb1⟩; replace hR:=zag (by exact hR) hb1 (by exact hR.lt); replace hFr:=Fb.below (by exact hFr) hb1 (by exact hFr.lt); replace hbel:=Below.trans (by first | exact hbel | exact hbel.drew) (hb1.mono (by exact hbel.size)); have HZ:=veil hZ1; clear hZ1; obtain ⟨s0,s1,s2,s3⟩:=hFr.sq)
  | (go_at_call 136; refine (kmul Z Q _ rfl hZt hQt _).mono ?_; rintro e w2 ⟨rfl,hb2⟩; replace hR:=zag (by exact hR) hb2 (by exact hR.lt); replace hFr:=Fb.below (by exact hFr) hb2 (by exact hFr.lt); replace hbel:=Below.trans (by first | exact hbel | exact hbel.drew) (hb2.mono (by exact hbel.size))))
 all_goals
  clear a0 a1 a2 a3 a4 a5 a6 a7 s0 s1 s2 s3 f0 f1 f2 f3 d0 d1 d2 d3
  go_wp2
  refine bodyPost_ret (results_cell_row rfl _ _ (w.heap.size + 1) 26 #[vI vU (wd P 0),vI vU (wd P 1),vI vU (wd P 2),vI vU (wd P 3)] (0,0) _ rfl (blk4 (put4 hR fun j => .int .u64 (wd (P) j))) Tryz.underlying26 rfl (by kernel_rfl)) rfl ⟨rfl,zau hbel (by omega) _ _ _ _⟩
theorem top_lt8 {X : Nat} (h : X < top) : X < top8:=by
 rw [ziq]; exact Nat.lt_of_lt_of_le h (Nat.le_mul_of_pos_right _ zdq)
theorem fcut_less (b X M : Nat) (N : Int) (Q P : Nat) (hX : X < top) (hK : Fok M N Q) (hP : X % M = P) (hl : X < M) (w : World) (hF : Fb w b M N Q) :
  Calls Tryz.prog 143 #[.pointer (some ⟨b,0,none⟩),.agg #[vI vU (wd X 0),vI vU (wd X 1),vI vU (wd X 2),vI vU (wd X 3)]] w fun e w' => e = .returned (.agg #[vI vU (wd P 0),vI vU (wd P 1),vI vU (wd P 2),vI vU (wd P 3)]) ∧ Below w.heap.size w w':=by
 obtain ⟨c,hc⟩ : ∃ c,c = cmpN X M:=⟨_,rfl⟩
 have hcn : c = -1:=by rw [hc]; unfold cmpN; rw [if_pos hl]
 have KC:=veil (fun W => kcmp X M c hc.symm hX hK.mt W)
 rw [Nat.mod_eq_of_lt hl] at hP
 subst hP
 subst hcn
 clear hc hl hX
 have hA : ((w.alloc (.cells #[vI vU (wd X 0),vI vU (wd X 1),vI vU (wd X 2),vI vU (wd X 3)] 26)).alloc (.cells #[vI vU 0,vI vU 0,vI vU 0,vI vU 0] 26)).rowIs w.heap.size 26 4 (fun j => .int .u64 (wd X j)):=(zan (n:=4) (by simp) rfl (arr4 fun j => .int .u64 (wd X j))).alloc _
 have hR : ((w.alloc (.cells #[vI vU (wd X 0),vI vU (wd X 1),vI vU (wd X 2),vI vU (wd X 3)] 26)).alloc (.cells #[vI vU 0,vI vU 0,vI vU 0,vI vU 0] 26)).rowIs (w.heap.size + 1) 26 4 (fun _ => .int .u64 0):=zan (n:=4) (by simp) rfl (arr4 fun _ => .int .u64 0)
 have hbel : Below w.heap.size w ((w.alloc (.cells #[vI vU (wd X 0),vI vU (wd X 1),vI vU (wd X 2),vI vU (wd X 3)] 26)).alloc (.cells #[vI vU 0,vI vU 0,vI vU 0,vI vU 0] 26)):=((Below.refl _ _).alloc (by simp) _).alloc (by simp) _
 have hFr : Fb ((w.alloc (.cells #[vI vU (wd X 0),vI vU (wd X 1),vI vU (wd X 2),vI vU (wd X 3)] 26)).alloc (.cells #[vI vU 0,vI vU 0,vI vU 0,vI vU 0] 26)) b M N Q:=((hF).alloc _).alloc _
 have hbs:=hF.lt
 clear hF
 go_enter Tryz.func143,Tryz.ntmps143
 go_wp2_with fail
 generalize ((w.alloc (.cells #[vI vU (wd X 0),vI vU (wd X 1),vI vU (wd X 2),vI vU (wd X 3)] 26)).alloc (.cells #[vI vU 0,vI vU 0,vI vU 0,vI vU 0] 26)) = w0 at *
 obtain ⟨a0,a1,a2,a3⟩:=zai hA
 obtain ⟨m0,m1,m2,m3⟩:=hFr.mod
 go_region_with (go_at_call 94; refine (KC.out _).mono ?_; rintro e w1 ⟨rfl,hb1⟩; replace hA:=zag (by exact hA) hb1 (by exact hA.lt); replace hR:=zag (by exact hR) hb1 (by exact hR.lt); replace hFr:=Fb.below (by exact hFr) hb1 (by exact hFr.lt); replace hbel:=Below.trans (by first | exact hbel | exact hbel.drew) (hb1.mono (by exact hbel.size)))
 all_goals
  clear a0 a1 a2 a3 m0 m1 m2 m3 hb1
  obtain ⟨a0,a1,a2,a3⟩:=zai hA
  obtain ⟨f0,f1,f2,f3⟩:=zax hR
  obtain ⟨d0,d1,d2,d3⟩:=zai hR
  go_wp2
  refine bodyPost_ret (results_cell_row rfl _ _ (w.heap.size + 1) 26 #[vI vU (wd X 0),vI vU (wd X 1),vI vU (wd X 2),vI vU (wd X 3)] (0,0) _ rfl (blk4 (put4 hR fun j => .int .u64 (wd (X) j))) Tryz.underlying26 rfl (by kernel_rfl)) rfl ⟨rfl,zau hbel (by omega) _ _ _ _⟩
theorem fcut_more (b X M : Nat) (N : Int) (Q P : Nat) (hX : X < top) (hK : Fok M N Q) (hP : X % M = P) (hl : ¬ X < M) (w : World) (hF : Fb w b M N Q) :
  Calls Tryz.prog 143 #[.pointer (some ⟨b,0,none⟩),.agg #[vI vU (wd X 0),vI vU (wd X 1),vI vU (wd X 2),vI vU (wd X 3)]] w fun e w' => e = .returned (.agg #[vI vU (wd P 0),vI vU (wd P 1),vI vU (wd P 2),vI vU (wd P 3)]) ∧ Below w.heap.size w w':=by
 obtain ⟨c,hc⟩ : ∃ c,c = cmpN X M:=⟨_,rfl⟩
 have hcn : 0 ≤ c:=by rw [hc,cmp_ge]; exact hl
 have KC:=veil (fun W => kcmp X M c hc.symm hX hK.mt W)
 have K1:=veil (fun W => wide_calls X hX W)
 have K2:=veil (fun W (h : Fb W b M N Q) => cutw_calls b X M N Q P (top_lt8 hX) hK hP W h)
 clear hc hl hX hP
 have hA : ((w.alloc (.cells #[vI vU (wd X 0),vI vU (wd X 1),vI vU (wd X 2),vI vU (wd X 3)] 26)).alloc (.cells #[vI vU 0,vI vU 0,vI vU 0,vI vU 0] 26)).rowIs w.heap.size 26 4 (fun j => .int .u64 (wd X j)):=(zan (n:=4) (by simp) rfl (arr4 fun j => .int .u64 (wd X j))).alloc _
 have hR : ((w.alloc (.cells #[vI vU (wd X 0),vI vU (wd X 1),vI vU (wd X 2),vI vU (wd X 3)] 26)).alloc (.cells #[vI vU 0,vI vU 0,vI vU 0,vI vU 0] 26)).rowIs (w.heap.size + 1) 26 4 (fun _ => .int .u64 0):=zan (n:=4) (by simp) rfl (arr4 fun _ => .int .u64 0)
 have hbel : Below w.heap.size w ((w.alloc (.cells #[vI vU (wd X 0),vI vU (wd X 1),vI vU (wd X 2),vI vU (wd X 3)] 26)).alloc (.cells #[vI vU 0,vI vU 0,vI vU 0,vI vU 0] 26)):=((Below.refl _ _).alloc (by simp) _).alloc (by simp) _
 have hFr : Fb ((w.alloc (.cells #[vI vU (wd X 0),vI vU (wd X 1),vI vU (wd X 2),vI vU (wd X 3)] 26)).alloc (.cells #[vI vU 0,vI vU 0,vI vU 0,vI vU 0] 26)) b M N Q:=((hF).alloc _).alloc _
 have hbs:=hF.lt
 clear hF
 go_enter Tryz.func143,Tryz.ntmps143
 go_wp2_with fail
 generalize ((w.alloc (.cells #[vI vU (wd X 0),vI vU (wd X 1),vI vU (wd X 2),vI vU (wd X 3)] 26)).alloc (.cells #[vI vU 0,vI vU 0,vI vU 0,vI vU 0] 26)) = w0 at *
 obtain ⟨a0,a1,a2,a3⟩:=zai hA
 obtain ⟨m0,m1,m2,m3⟩:=hFr.mod
 go_region_with (go_at_call 94; refine (KC.out _).mono ?_; rintro e w1 ⟨rfl,hb1⟩; replace hA:=zag (by exact hA) hb1 (by exact hA.lt); replace hR:=zag (by exact hR) hb1 (by exact hR.lt); replace hFr:=Fb.below (by exact hFr) hb1 (by exact hFr.lt); replace hbel:=Below.trans (by first | exact hbel | exact hbel.drew) (hb1.mono (by exact hbel.size)))
 all_goals
  clear a0 a1 a2 a3 m0 m1 m2 m3 hb1
  obtain ⟨a0,a1,a2,a3⟩:=zai hA
  go_wp2_with fail
  refine (K1.out _).mono ?_
  rintro e w2 ⟨rfl,hb2⟩
  replace hR:=zag (by exact hR) hb2 (by exact hR.lt)
  replace hFr:=Fb.below (by exact hFr) hb2 (by exact hFr.lt)
  replace hbel:=Below.trans (by first | exact hbel | exact hbel.drew) (hb2.mono (by exact hbel.size))
  clear a0 a1 a2 a3 hA hb2
  go_wp2_with fail
  refine (K2.out _ hFr).mono ?_
  rintro e w3 ⟨rfl,hb3⟩
  replace hR:=zag (by exact hR) hb3 (by exact hR.lt)
  replace hFr:=Fb.below (by exact hFr) hb3 (by exact hFr.lt)
  replace hbel:=Below.trans (by first | exact hbel | exact hbel.drew) (hb3.mono (by exact hbel.size))
  clear hb3 hFr
  obtain ⟨f0,f1,f2,f3⟩:=zax hR
  obtain ⟨d0,d1,d2,d3⟩:=zai hR
  go_wp2
  refine bodyPost_ret (results_cell_row rfl _ _ (w.heap.size + 1) 26 #[vI vU (wd P 0),vI vU (wd P 1),vI vU (wd P 2),vI vU (wd P 3)] (0,0) _ rfl (blk4 (put4 hR fun j => .int .u64 (wd (P) j))) Tryz.underlying26 rfl (by kernel_rfl)) rfl ⟨rfl,zau hbel (by omega) _ _ _ _⟩
theorem fcut_calls (b X M : Nat) (N : Int) (Q P : Nat) (hX : X < top) (hK : Fok M N Q) (hP : X % M = P) (w : World) (hF : Fb w b M N Q) :
  Calls Tryz.prog 143 #[.pointer (some ⟨b,0,none⟩),.agg #[vI vU (wd X 0),vI vU (wd X 1),vI vU (wd X 2),vI vU (wd X 3)]] w fun e w' => e = .returned (.agg #[vI vU (wd P 0),vI vU (wd P 1),vI vU (wd P 2),vI vU (wd P 3)]) ∧ Below w.heap.size w w':=by
 by_cases h : X < M
 ·
  exact fcut_less b X M N Q P hX hK hP h w hF
 ·
  exact fcut_more b X M N Q P hX hK hP h w hF
theorem zha (b X Y M : Nat) (N : Int) (Q Z : Nat) (hX : X < top) (hY : Y < top) (hK : Fok M N Q) (hZ : (X % M + Y % M) % M = Z) (w : World) (hF : Fb w b M N Q) :
  Calls Tryz.prog 104 #[.pointer (some ⟨b,0,none⟩),.agg #[vI vU (wd X 0),vI vU (wd X 1),vI vU (wd X 2),vI vU (wd X 3)],.agg #[vI vU (wd Y 0),vI vU (wd Y 1),vI vU (wd Y 2),vI vU (wd Y 3)]] w fun e w' => e = .returned (.agg #[vI vU (wd Z 0),vI vU (wd Z 1),vI vU (wd Z 2),vI vU (wd Z 3)]) ∧ Below w.heap.size w w':=by
 have hM0 : 0 < M:=by have:=hK.m2; omega
 have hX2:=Nat.mod_lt X hM0
 have hY2:=Nat.mod_lt Y hM0
 have K3:=veil (fun W (h : Fb W b M N Q) => fadd_calls b (X % M) (Y % M) M N Q Z hX2 hY2 hK.mt hZ W h)
 have HK:=veil hK
 clear hK hZ hM0 hX2 hY2
 have hA : (((w.alloc (.cells #[vI vU (wd X 0),vI vU (wd X 1),vI vU (wd X 2),vI vU (wd X 3)] 26)).alloc (.cells #[vI vU (wd Y 0),vI vU (wd Y 1),vI vU (wd Y 2),vI vU (wd Y 3)] 26)).alloc (.cells #[vI vU 0,vI vU 0,vI vU 0,vI vU 0] 26)).rowIs w.heap.size 26 4 (fun j => .int .u64 (wd X j)):=((zan (n:=4) (by simp) rfl (arr4 fun j => .int .u64 (wd X j))).alloc _).alloc _
 have hB : (((w.alloc (.cells #[vI vU (wd X 0),vI vU (wd X 1),vI vU (wd X 2),vI vU (wd X 3)] 26)).alloc (.cells #[vI vU (wd Y 0),vI vU (wd Y 1),vI vU (wd Y 2),vI vU (wd Y 3)] 26)).alloc (.cells #[vI vU 0,vI vU 0,vI vU 0,vI vU 0] 26)).rowIs (w.heap.size + 1) 26 4 (fun j => .int .u64 (wd Y j)):=(zan (n:=4) (by simp) rfl (arr4 fun j => .int .u64 (wd Y j))).alloc _
 have hR : (((w.alloc (.cells #[vI vU (wd X 0),vI vU (wd X 1),vI vU (wd X 2),vI vU (wd X 3)] 26)).alloc (.cells #[vI vU (wd Y 0),vI vU (wd Y 1),vI vU (wd Y 2),vI vU (wd Y 3)] 26)).alloc (.cells #[vI vU 0,vI vU 0,vI vU 0,vI vU 0] 26)).rowIs (w.heap.size + 1 + 1) 26 4 (fun _ => .int .u64 0):=zan (n:=4) (by simp) rfl (arr4 fun _ => .int .u64 0)
 have hbel : Below w.heap.size w (((w.alloc (.cells #[vI vU (wd X 0),vI vU (wd X 1),vI vU (wd X 2),vI vU (wd X 3)] 26)).alloc (.cells #[vI vU (wd Y 0),vI vU (wd Y 1),vI vU (wd Y 2),vI vU (wd Y 3)] 26)).alloc (.cells #[vI vU 0,vI vU 0,vI vU 0,vI vU 0] 26)):=(((Below.refl _ _).alloc (by simp) _).alloc (by simp) _).alloc (by simp; omega) _
 have hFr : Fb (((w.alloc (.cells #[vI vU (wd X 0),vI vU (wd X 1),vI vU (wd X 2),vI vU (wd X 3)] 26)).alloc (.cells #[vI vU (wd Y 0),vI vU (wd Y 1),vI vU (wd Y 2),vI vU (wd Y 3)] 26)).alloc (.cells #[vI vU 0,vI vU 0,vI vU 0,vI vU 0] 26)) b M N Q:=(((hF).alloc _).alloc _).alloc _
 have hbs:=hF.lt
 clear hF
 go_enter Tryz.func104,Tryz.ntmps104
 go_wp2_with fail
 generalize (((w.alloc (.cells #[vI vU (wd X 0),vI vU (wd X 1),vI vU (wd X 2),vI vU (wd X 3)] 26)).alloc (.cells #[vI vU (wd Y 0),vI vU (wd Y 1),vI vU (wd Y 2),vI vU (wd Y 3)] 26)).alloc (.cells #[vI vU 0,vI vU 0,vI vU 0,vI vU 0] 26)) = w0 at *
 obtain ⟨a0,a1,a2,a3⟩:=zai hA
 obtain ⟨b0,b1,b2,b3⟩:=zai hB
 obtain ⟨f0,f1,f2,f3⟩:=zax hR
 obtain ⟨d0,d1,d2,d3⟩:=zai hR
 go_region_with (first
  | (go_at_call 143; refine (fcut_calls b _ M N Q _ (by assumption) HK.out rfl _ (by exact hFr)).mono ?_; rintro e w1 ⟨rfl,hb1⟩; replace hB:=zag (by exact hB) hb1 (by exact hB.lt); replace hA:=zag (by exact hA) hb1 (by exact hA.lt); replace hR:=zag (by exact hR) hb1 (by exact hR.lt); replace hFr:=Fb.below (by exact hFr) hb1 (by exact hFr.lt); replace hbel:=Below.trans (by first | exact hbel | exact hbel.drew) (hb1.mono (by exact hbel.size)); obtain ⟨b0,b1,b2,b3⟩:=zai hB; obtain ⟨a0,a1,a2,a3⟩:=zai hA)
  | (go_at_call 142; refine (K3.out _ (by exact hFr)).mono ?_; rintro e w3 ⟨rfl,hb3⟩; replace hR:=zag (by exact hR) hb3 (by exact hR.lt); replace hFr:=Fb.below (by exact hFr) hb3 (by exact hFr.lt); replace hbel:=Below.trans (by first | exact hbel | exact hbel.drew) (hb3.mono (by exact hbel.size)); obtain ⟨f0,f1,f2,f3⟩:=zax hR; obtain ⟨d0,d1,d2,d3⟩:=zai hR))
 all_goals
  clear a0 a1 a2 a3 b0 b1 b2 b3 f0 f1 f2 f3 d0 d1 d2 d3
  go_wp2
  refine bodyPost_ret (results_cell_row rfl _ _ (w.heap.size + 1 + 1) 26 #[vI vU (wd Z 0),vI vU (wd Z 1),vI vU (wd Z 2),vI vU (wd Z 3)] (0,0) _ rfl (blk4 (put4 hR fun j => .int .u64 (wd (Z) j))) Tryz.underlying26 rfl (by kernel_rfl)) rfl ⟨rfl,zau hbel (by omega) _ _ _ _⟩
theorem pN_is (w : World) : Calls Tryz.prog 95 #[] w fun e w' => e = .returned (nv Pt.nn) ∧ Ext w w':=by
 obtain ⟨l0,l1,l2,l3⟩:=nn_words
 unfold nv nc
 rw [l0,l1,l2,l3]
 clear l0 l1 l2 l3
 go_enter Tryz.func95,Tryz.ntmps95
 go_wp2
 exact bodyPost_ret (results_cell_row rfl _ _ w.heap.size 26 #[vI vU 17562291160714782033,vI vU 13611842547513532036,vI vU 18446744073709551615,vI vU 18446744069414584320] (0,0) _ rfl (heap_alloc_last w _) Tryz.underlying26 rfl (by kernel_rfl)) rfl ⟨rfl,(Below.refl _ _).alloc (Nat.le_refl _) _⟩
theorem can_zero  (w : World) :
  Calls Tryz.prog 111 #[nv 0] w fun e w' => e = .returned (.bool false) ∧ Ext w w':=by
 unfold nv nc
 go_enter Tryz.func111,Tryz.ntmps111
 go_upto_region 1 with (fail)
 refine zdj fun w1 hx b0 => ?_
 have b0 : w1.heap[w.heap.size]? = some (.cells (nc 0) 26 (0,0)):=b0
 refine' zdf (m:=10) (A:=_) 10 (by kernel_rfl) (by kernel_rfl) ?h1 ?h2
 case h1 =>
  refine zaa (nv 0) rfl (zac rfl rfl b0 rfl uN rfl (iN _)) ?_
  refine zaa (nv 0) rfl (zbb rfl rfl (bldN0 ·)) ?_;simp only [aP,lA,lZ,lS]
  refine zaa (.bool false) rfl (zgy rfl rfl rfl (gN _ _ _ _ _) neN) ?_
  refine zaa (.bool false) rfl (zah (.inl rfl) rfl) ?_;simp only [aP,lA,lZ,lS]
  refine zay rfl ?_
  refine zay rfl ?_;simp only [aP,lA,lZ,lS]
  refine zay rfl ?_
  refine zay rfl ?_;simp only [aP,lA,lZ,lS]
  refine zaa (.bool false) rfl (zaz rfl rfl rfl) ?_
  refine zaa (.bool false) rfl (zah (.inr rfl) rfl) ?_;simp only [aP,lA,lZ,lS]
  exact zaj
 refine zcj rfl (by kernel_rfl) ?_
 intro w2 hE
 refine NoPanic.normal ?_
 replace hx:=hx.trans hE
 clear hE
 go_wp2
 go_ret
 exact ⟨rfl,hx⟩
theorem can_in (X : Nat) (hX : X < top) (h0 : X ≠ 0) (hl : X < Pt.nn) (w : World) :
  Calls Tryz.prog 111 #[nv X] w fun e w' => e = .returned (.bool true) ∧ Ext w w':=by
 have kX:=veil hX
 have k0:=veil h0
 have kl:=veil hl
 clear hX h0 hl
 unfold nv nc
 go_enter Tryz.func111,Tryz.ntmps111
 go_upto_region 1 with (fail)
 refine zdj fun w1 hx b0 => ?_
 have b0 : w1.heap[w.heap.size]? = some (.cells (nc X) 26 (0,0)):=b0
 refine' zdf (m:=10) (A:=_) 10 (by kernel_rfl) (by kernel_rfl) ?h1 ?h2
 case h1 =>
  refine zaa (nv X) rfl (zac rfl rfl b0 rfl uN rfl (iN _)) ?_
  refine zaa (nv 0) rfl (zbb rfl rfl (bldN0 ·)) ?_;simp only [aP,lA,lZ,lS]
  refine zaa (.bool true) rfl (zgy rfl rfl rfl (gN _ _ _ _ _) (neN0 kX.out k0.out ·)) ?_
  refine zaa (.bool true) rfl (zah (.inl rfl) rfl) ?_;simp only [aP,lA,lZ,lS]
  refine zam (nv X) rfl (zac rfl rfl b0 rfl uN rfl (iN _)) ?_
  refine zam (nv Pt.nn) rfl (zaf (args:=[]) rfl rfl (fun W => zab Tryz.func95 rfl rfl _ W) (fun W hW => pN_is W)) ?_;simp only [aP,lA,lZ,lS]
  refine zam (.int .i64 (cmpN X Pt.nn)) rfl (zaf (args:=[nv X,nv Pt.nn]) rfl rfl (fun W => zab Tryz.func94 rfl rfl _ W) (fun W hW => zfv X Pt.nn kX.out zdp W)) ?_
  refine zam (.bool true) rfl (ziy rfl rfl (cmpL kl.out)) ?_;simp only [aP,lA,lZ,lS]
  refine zaa (.bool true) rfl (zaz rfl rfl rfl) ?_
  refine zaa (.bool true) rfl (zah (.inr rfl) rfl) ?_;simp only [aP,lA,lZ,lS]
  exact zaj
 refine zcj rfl (by kernel_rfl) ?_
 intro w2 hE
 refine NoPanic.normal ?_
 replace hx:=hx.trans hE
 clear hE
 go_wp2
 go_ret
 exact ⟨rfl,hx⟩
theorem can_out (X : Nat) (hX : X < top) (h0 : X ≠ 0) (hl : ¬ X < Pt.nn) (w : World) :
  Calls Tryz.prog 111 #[nv X] w fun e w' => e = .returned (.bool false) ∧ Ext w w':=by
 have kX:=veil hX
 have k0:=veil h0
 have kl:=veil hl
 clear hX h0 hl
 unfold nv nc
 go_enter Tryz.func111,Tryz.ntmps111
 go_upto_region 1 with (fail)
 refine zdj fun w1 hx b0 => ?_
 have b0 : w1.heap[w.heap.size]? = some (.cells (nc X) 26 (0,0)):=b0
 refine' zdf (m:=10) (A:=_) 10 (by kernel_rfl) (by kernel_rfl) ?h1 ?h2
 case h1 =>
  refine zaa (nv X) rfl (zac rfl rfl b0 rfl uN rfl (iN _)) ?_
  refine zaa (nv 0) rfl (zbb rfl rfl (bldN0 ·)) ?_;simp only [aP,lA,lZ,lS]
  refine zaa (.bool true) rfl (zgy rfl rfl rfl (gN _ _ _ _ _) (neN0 kX.out k0.out ·)) ?_
  refine zaa (.bool true) rfl (zah (.inl rfl) rfl) ?_;simp only [aP,lA,lZ,lS]
  refine zam (nv X) rfl (zac rfl rfl b0 rfl uN rfl (iN _)) ?_
  refine zam (nv Pt.nn) rfl (zaf (args:=[]) rfl rfl (fun W => zab Tryz.func95 rfl rfl _ W) (fun W hW => pN_is W)) ?_;simp only [aP,lA,lZ,lS]
  refine zam (.int .i64 (cmpN X Pt.nn)) rfl (zaf (args:=[nv X,nv Pt.nn]) rfl rfl (fun W => zab Tryz.func94 rfl rfl _ W) (fun W hW => zfv X Pt.nn kX.out zdp W)) ?_
  refine zam (.bool false) rfl (ziy rfl rfl (cmpG kl.out)) ?_;simp only [aP,lA,lZ,lS]
  refine zaa (.bool false) rfl (zaz rfl rfl rfl) ?_
  refine zaa (.bool false) rfl (zah (.inr rfl) rfl) ?_;simp only [aP,lA,lZ,lS]
  exact zaj
 refine zcj rfl (by kernel_rfl) ?_
 intro w2 hE
 refine NoPanic.normal ?_
 replace hx:=hx.trans hE
 clear hE
 go_wp2
 go_ret
 exact ⟨rfl,hx⟩
theorem can_calls (X : Nat) (hX : X < top) (w : World) : Calls Tryz.prog 111 #[nv X] w fun e w' => e = .returned (.bool (mayB X)) ∧ Ext w w':=by
 unfold mayB
 by_cases h0 : X = 0
 ·
  subst h0
  exact can_zero w
 ·
  by_cases hl : X < Pt.nn
  ·
   rw [decide_eq_true h0,decide_eq_true hl]
   exact can_in X hX h0 hl w
  ·
   rw [decide_eq_true h0,decide_eq_false hl]
   exact can_out X hX h0 hl w
theorem nn_odd : Pt.nn % 2 = 1 ∧ 2 < Pt.nn:=by decide +kernel
theorem nc_zero : #[Value.int .u64 0,vI vU 0,vI vU 0,vI vU 0] = nc 0:=by
 unfold nc
 rw [zem,zem,zem,zem]
theorem reduced_calls (y : Nat → Nat) (hy : ∀ j,y j < 256) (w : World) :
  Calls Tryz.prog 144 #[.agg (arrOf 32 fun i => .int .u8 (y i : Nat))] w fun e w' => e = .returned (nv (num32 y % Pt.nn)) ∧ Ext w w':=by
 obtain ⟨F,hF⟩ : ∃ F,F = arrOf 32 fun i => Value.int .u8 (y i : Nat):=⟨_,rfl⟩
 obtain ⟨X,hX⟩ : ∃ X,X = num32 y:=⟨_,rfl⟩
 obtain ⟨Z,hZ⟩ : ∃ Z,Z = X % Pt.nn:=⟨_,rfl⟩
 have hXt : X < top:=by rw [hX]; exact zgv hy
 rw [← hF,← hX,← hZ]
 have HF:=veil (And.intro hF (And.intro hX (And.intro hZ (And.intro hXt hy))))
 clear hF hX hZ hXt hy
 go_enter Tryz.func144,Tryz.ntmps144
 go_upto_region 1 with (fail)
 have hR : (w.alloc (.cells F 43)).rowIs w.heap.size 43 32 (fun i => .int .u8 (y i : Nat)):=by rw [HF.out.1]; exact zbz w 32 43 _ rfl
 have hz1 : (w.alloc (.cells F 43)).heap.size = w.heap.size + 1:=by simp
 have hE1 : Ext w (w.alloc (.cells F 43)):=Ext.alloc _ _
 generalize w.alloc (.cells F 43) = w1 at *
 have hR2:=hR.alloc (.cells #[vI vU 0,vI vU 0,vI vU 0,vI vU 0] 26)
 have hn2 : (w1.alloc (.cells #[vI vU 0,vI vU 0,vI vU 0,vI vU 0] 26)).heap[w.heap.size + 1]? = some (.cells #[vI vU 0,vI vU 0,vI vU 0,vI vU 0] 26 (0,0)):=by rw [← hz1]; exact heap_alloc_last w1 _
 have hE2:=hE1.trans (Ext.alloc w1 (.cells #[vI vU 0,vI vU 0,vI vU 0,vI vU 0] 26))
 generalize w1.alloc (.cells #[vI vU 0,vI vU 0,vI vU 0,vI vU 0] 26) = w2 at *
 have HOf:=veil (show Calls Tryz.prog 83 #[.slice (some ⟨w.heap.size,0,none⟩) 32 32] w2 fun e w' => e = .returned (.tuple #[nv X,.nilIface]) ∧ Ext w2 w' from by
  rw [HF.out.2.1]; exact ziu w.heap.size 0 32 32 y HF.out.2.2.2.2 (by decide) w2 hR2.lt (fun j hj => by rw [Nat.zero_add]; exact hR2.cell hj))
 have H2:=veil (And.intro hn2 hE2)
 clear hR hR2 hn2 hE2 hE1 hz1
 go_upto_region 2 with (first
  | (go_at_call 83; refine HOf.out.mono ?_; rintro e w3 ⟨rfl,hb3⟩)
  | ((with_reducible refine zaw ?_); refine wpList_store_row rfl 26 _ _ rfl w3.heap.size (nc X) rfl rfl 26 _ (heap_alloc_last w3 _) (iN X) (by rfl) (zbf X) ?_; rw [World.setRow_alloc_new]))
 have hx4 : (w3.alloc (.cells (nc X) 26)).heap[w3.heap.size]? = some (.cells (nc X) 26 (0,0)):=heap_alloc_last w3 _
 have hE4:=(hb3.trans (Ext.alloc w3 (.cells (nc X) 26)))
 have H4:=veil (And.intro (hE4.block H2.out.1) (And.intro hx4 (H2.out.2.trans hE4)))
 generalize w3.alloc (.cells (nc X) 26) = w4 at *
 generalize w3.heap.size = gx at *
 clear hx4 hE4 hb3 HOf H2
 have HN:=veil (pN_is w4)
 go_upto_region 3 with (first
  | (go_at_call 95; refine HN.out.mono ?_; rintro e w5 ⟨rfl,hb5⟩)
  | (go_at_call 102; refine (new_good Pt.nn nn_odd.1 nn_odd.2 zdp w5).mono ?_; rintro e w6 ⟨⟨b,N,Q,hok,hfb,hge,rfl⟩,hb6⟩))
 have hb6 : Ext w5 w6:=hb6
 have HA:=veil (show Calls Tryz.prog 104 #[.pointer (some ⟨b,0,none⟩),nv X,.agg #[vI vU 0,vI vU 0,vI vU 0,vI vU 0]] w6 fun e w' => e = .returned (nv Z) ∧ Ext w6 w' from by
  rw [nc_zero]
  exact zha b X 0 Pt.nn N Q Z HF.out.2.2.2.1 zdq hok (by rw [HF.out.2.2.1,Nat.zero_mod,Nat.add_zero,Nat.mod_mod]) w6 hfb)
 have H6:=veil (And.intro ((hb5.trans hb6).block H4.out.1) (And.intro ((hb5.trans hb6).block H4.out.2.1) (H4.out.2.2.trans (hb5.trans hb6))))
 clear hok hfb hge hb5 hb6 H4 HN
 go_wp2_with (first
  | ((with_reducible refine zas 18 ?_); refine wpList_load_row rfl 26 _ rfl gx rfl 26 (nc X) (0,0) _ H6.out.2.1 Tryz.underlying26 rfl (iN X) ?_)
  | (go_at_call 104; refine HA.out.mono ?_; rintro e w7 ⟨rfl,hb7⟩)
  | ((with_reducible refine zaw ?_); refine wpList_store_row rfl 26 _ _ rfl (w.heap.size + 1) (nc Z) rfl rfl 26 _ (hb7.block H6.out.1) (iN Z) (by rfl) (zbf Z) ?_))
 exact bodyPost_ret (results_cell_row rfl _ _ (w.heap.size + 1) 26 (nc Z) (0,0) _ rfl (setRow_heap w7 (w.heap.size + 1) _ (nc Z) 26 (0,0) (hb7.block H6.out.1)) Tryz.underlying26 rfl (iN Z)) rfl ⟨rfl,zbj (H6.out.2.2.trans hb7) (by omega) _⟩
theorem zhx {D : Nat} (h : mayB D = true) : Pt.pFar (Pt.grp.mul D Pt.base).1 = false:=by
 cases hf : Pt.pFar (Pt.grp.mul D Pt.base).1 with
 | false => rfl
 | true =>
  have h1:=(Pt.inR_iff D).1 h
  exact absurd ((Pt.far_iff _).1 hf) (Pt.mul_near h1.1 h1.2 Pt.base_near)
theorem pick_holds {D E r s : Nat} {l : List Nat} (hD : mayB D = true) (hl : ∀ k ∈ l,mayB k = true) (h : pick D E l = some (r,s)) : Pt.verB (Pt.grp.mul D Pt.base) E r s = true:=by
 induction l with
 | nil => cases h
 | cons k l ih =>
  unfold pick at h
  split at h
  ·
   injection h with h
   injection h with h1 h2
   rename_i hc
   simp only [Bool.and_eq_true] at hc
   subst h1 h2
   have a:=(Pt.inR_iff D).1 hD
   have b:=(Pt.inR_iff k).1 (hl k (by simp))
   exact Pt.sign_holds a.1 a.2 b.1 b.2 ((Pt.inR_iff _).1 hc.1).1 ((Pt.inR_iff _).1 hc.2).1
  ·
   exact ih (fun k hk => hl k (by simp [hk])) h
theorem sigOf_holds {D E r s : Nat} {l : List Nat} (hD : mayB D = true) (hl : ∀ k ∈ l,mayB k = true) (h : sigOf D E l = some (r,s)) : Pt.verB (Pt.grp.mul D Pt.base) E r s = true:=by
 unfold sigOf at h
 split at h
 ·
  cases h
 ·
  exact pick_holds hD hl h
/-! ### digests -/
def dgL (bs : List Nat) (j : Nat) : Nat:=dByte (shaSt (fun i => bs.getD i 0) bs.length) j
theorem dgL_lt (bs : List Nat) (j : Nat) : dgL bs j < 256:=Nat.mod_lt _ (by decide)
theorem src_bs {w : World} {A : Option Addr} {bs : List Nat} (h : Bs w A bs) : Src w A bs.length (fun j => bs.getD j 0) w.heap.size :=
 h.2.imp id fun ⟨b,o,e,hb,hc⟩ => ⟨b,o,e,hb,by omega,hc⟩
/-! ### numbers -/
theorem lev_digs9 (X : Nat) (z : Nat → Nat) : ∀ i,(∀ k,k < i → z k = X / 256 ^ k % 256) → lev z i = X % 256 ^ i
 | 0,_ => by simp [lev,Nat.mod_one]
 | i + 1,h => by
  show lev z i + z i * 256 ^ i = _
  rw [zcu,lev_digs9 X z i (fun k hk => h k (by omega)),h i (by omega),Nat.mul_comm]
  rfl
theorem lev_valB {bs : List Nat} (h : Byt bs) {n : Nat} (hl : bs.length = n) {z : Nat → Nat} (hz : ∀ k,k < n → z k = bs.getD (n - 1 - k) 0) : lev z n = valB bs:=by
 have e:=beB_valB h hl
 have hx : valB bs < 256 ^ n:=hl ▸ zgk h
 rw [lev_digs9 (valB bs) z n fun k hk => ?_,Nat.mod_eq_of_lt hx]
 have h1:=beB_get n (valB bs) (i:=n - 1 - k) (by omega)
 rw [e] at h1
 rw [hz k hk,h1,show n - 1 - (n - 1 - k) = k by omega]
theorem ptB_sig (r s j : Nat) (hj : j < 64) : ptB r s j = .int .u8 ((sigB r s).getD j 0 : Nat):=by
 have hd : ∀ X i,i < 32 → bsv X i = .int .u8 ((beB 32 X).getD i 0 : Nat):=fun X i hi => by
  rw [beB_get 32 X hi]
  rfl
 unfold ptB sigB
 simp only [List.getD_eq_getElem?_getD] at hd ⊢
 by_cases h : j < 32
 ·
  rw [if_pos h,List.getElem?_append_left (by rw [zcr]; exact h)]
  exact hd r j h
 ·
  rw [if_neg h,List.getElem?_append_right (by rw [zcr]; omega),zcr]
  exact hd s (j - 32) (by omega)
theorem own_sig {w w' : World} {v : Value} {r s : Nat} (o : Own w' w.heap.size 5 v 64 (ptB r s)) : ∃ A c,v = .slice A 64 c ∧ 64 ≤ c ∧ Bs w' A (sigB r s) ∧ Fresh w A (sigB r s):=by
 obtain ⟨g,c,rfl,hc,hg,hp⟩:=o.pre (by decide)
 refine ⟨_,c,rfl,hc,⟨sigB_byt r s,.inr ⟨g,0,rfl,hp.lt,fun j hj => ?_⟩⟩,.inr fun b o e => ?_⟩
 ·
  rw [zcv] at hj
  rw [Nat.zero_add,hp.cell hj,ptB_sig r s j hj]
 ·
  injection e with e
  injection e with e
  omega
/-! ### signatures -/
theorem on_of {X Y : Nat} (h : onB X Y false = true) : Pt.E256.on (some (Pt.F X,Pt.F Y)):=by
 have h1:=(onB_iff X Y false).1 h
 unfold Pt.isOn at h1
 rw [if_neg (by decide)] at h1
 exact h1.2.2
def vfL (X Y : Nat) (f : Bool) (y : Nat → Nat) (R S : Nat) : Bool:=if h : onB X Y false = true then !f && Pt.verB ⟨_,on_of h⟩ (num32 y) R S else false
theorem vfL_off {X Y : Nat} {f : Bool} (h : onB X Y f = false) (y : Nat → Nat) (R S : Nat) : vfL X Y f y R S = false:=by
 unfold vfL
 split
 ·
  rename_i h1
  cases f with
  | true => rfl
  | false => rw [h] at h1; cases h1
 ·
  rfl
theorem vfL_on (p : Pt.Q) (y : Nat → Nat) (R S : Nat) : vfL (Pt.pX p.1) (Pt.pY p.1) (Pt.pFar p.1) y R S = Pt.verB p (num32 y) R S:=by
 have hon:=onB_of p
 cases hf : Pt.pFar p.1 with
 | true =>
  have e : Pt.verB p (num32 y) R S = false:=by unfold Pt.verB; rw [hf]; rfl
  rw [e]
  unfold vfL
  split <;> rfl
 | false =>
  rw [hf] at hon
  unfold vfL
  rw [dif_pos hon,Bool.not_false,Bool.true_and]
  congr 1
  apply Subtype.ext
  refine Pt.p_inj ?_ ?_ ?_
  ·
   exact Nat.mod_eq_of_lt (Pt.pX_lt p.1)
  ·
   exact Nat.mod_eq_of_lt (Pt.pY_lt p.1)
  ·
   rw [hf]; rfl
def endN (D M many : Nat) : Nat → Nat
 | 0 => 100
 | k + 1 => if (outN D M (100 - (k + 1))).length < many then endN D M many k else 100 - (k + 1)
theorem endN_is (D M many : Nat) : ∀ k,k ≤ 100 → (∀ j,j < 100 - k → (outN D M j).length < many) → Ends D M many (endN D M many k)
 | 0,_,h => ⟨Nat.le_refl _,h,.inl rfl⟩
 | k + 1,hk,h => by
  unfold endN
  split
  ·
   rename_i h1
   refine endN_is D M many k (by omega) fun j hj => ?_
   by_cases e : j < 100 - (k + 1)
   ·
    exact h j e
   ·
    rw [show j = 100 - (k + 1) by omega]; exact h1
  ·
   rename_i h1
   exact ⟨by omega,h,.inr h1⟩
theorem ends_fn (D M many : Nat) : Ends D M many (endN D M many 100):=endN_is D M many 100 (Nat.le_refl _) fun j hj => by omega
def sgL (D : Nat) (y : Nat → Nat) : Option (Nat × Nat):=sigOf D (num32 y) (outN D (num32 y % Pt.nn) (endN D (num32 y % Pt.nn) 16 100))
theorem sgL_of {D : Nat} {y : Nat → Nat} {s : Nat} {o : Option (Nat × Nat)} (h : Ends D (num32 y % Pt.nn) 16 s) (ho : sigOf D (num32 y) (outN D (num32 y % Pt.nn) s) = o) : o = sgL D y:=by
 obtain rfl:=h.same (ends_fn D (num32 y % Pt.nn) 16)
 exact ho.symm
def pubL (D : Nat) : Nat × Nat:=(Pt.pX (Pt.grp.mul D Pt.base).1,Pt.pY (Pt.grp.mul D Pt.base).1)
theorem pub_q {D : Nat} (h : mayB D = true) : qv (pubL D).1 (pubL D).2 false = pv (Pt.grp.mul D Pt.base):=by
 unfold pv pubL
 rw [zhx h]
theorem sgw_is (o : Option (Nat × Nat)) : sgw o = sgv o:=by cases o <;> rfl
theorem vfs_L (D : Nat) (y : Nat → Nat) (r s : Nat) (hD : mayB D = true) (_ : ∀ j,y j < 256) (h : sgL D y = some (r,s)) : vfL (pubL D).1 (pubL D).2 false y r s = true:=by
 have h1:=vfL_on (Pt.grp.mul D Pt.base) y r s
 rw [zhx hD] at h1
 rw [show vfL (pubL D).1 (pubL D).2 false y r s = _ from h1]
 exact sigOf_holds hD (fun k hk => (zit _ _ _ k hk).1) h
def lowL : Low where
 dg:=dgL
 dgb:=dgL_lt
 vf:=vfL
 md:=mayB
 sg:=sgL
 pub:=pubL
 mdt:=fun _ h => Nat.lt_trans (zge h) zdp
 sgt:=fun _ _ _ _ h => sigOf_top h
 pubt:=fun D _ => p_top (Pt.grp.mul D Pt.base).1
 vfs:=vfs_L
structure CodeL : Prop where
 sum : ∀ A m c bs w,KT w → m = bs.length → m ≤ c → m ≤ 100000 → Bs w A bs → Calls Tryz.prog 26 #[.slice A m c] w fun e w' => e = .returned (dgv (dgL bs)) ∧ Ext w w'
 sign_bad : ∀ D y w,D < top → mayB D = false → Calls Tryz.prog 25 #[nv D,dgv y] w fun e w' => e = .returned (.tuple #[gv 0 0,.iface 35 (.int .i64 1)]) ∧ Ext w w'
 sign_ok : ∀ D y w,KT w → mayB D = true → (∀ j,y j < 256) → Calls Tryz.prog 25 #[nv D,dgv y] w fun e w' => e = .returned (.tuple #[sgw (sgL D y),if (sgL D y).isSome then .nilIface else .iface 35 (.int .i64 4)]) ∧ Ext w w'
 ver : ∀ X Y f y R S w,X < top → Y < top → R < top → S < top → (∀ j,y j < 256) → Calls Tryz.prog 50 #[qv X Y f,dgv y,gv R S] w fun e w' => e = .returned (.bool (vfL X Y f y R S)) ∧ Ext w w'
 pub : ∀ D w,mayB D = true → Calls Tryz.prog 21 #[nv D] w fun e w' => e = .returned (.tuple #[qv (pubL D).1 (pubL D).2 false,.nilIface]) ∧ Ext w w'
 on : ∀ D w,mayB D = true → Calls Tryz.prog 22 #[qv (pubL D).1 (pubL D).2 false] w fun e w' => e = .returned (.bool true) ∧ Ext w w'
 bytes : ∀ r s w,Calls Tryz.prog 27 #[gv r s] w fun e w' => ∃ A c,e = .returned (.slice A 64 c) ∧ 64 ≤ c ∧ Bs w' A (sigB r s) ∧ Fresh w A (sigB r s) ∧ Ext w w'
 parse_no : ∀ A m c w,m ≠ 64 → Calls Tryz.prog 47 #[.slice A m c] w fun e w' => e = .returned (.tuple #[gv 0 0,.iface 35 (.int .i64 2)]) ∧ Ext w w'
 parse_64 : ∀ A m c bs w,m = bs.length → m = 64 → m ≤ c → Bs w A bs → Calls Tryz.prog 47 #[.slice A m c] w fun e w' => e = .returned (.tuple #[gv (sigR bs) (sigS bs),.nilIface]) ∧ Ext w w'
theorem rsig_bytes (X Y : Nat) (w : World) :
  Calls Tryz.prog 43 #[gv X Y] w fun e w' => ∃ g cap,e = .returned (.slice (some ⟨g,0,none⟩) 64 cap) ∧ w.heap.size ≤ g ∧ Own w' w.heap.size 5 (.slice (some ⟨g,0,none⟩) 64 cap) 64 (ptB X Y) ∧ Below w.heap.size w w':=by
 obtain ⟨i8,hi8,hz0,hz1,hz2⟩:=info_parts infoByte
 have HI:=veil (And.intro hi8 (And.intro hz0 (And.intro hz1 hz2)))
 clear hi8 hz0 hz1 hz2
 unfold gv gc
 have hA : (w.alloc (.cells #[vI vU (wd X 0),vI vU (wd X 1),vI vU (wd X 2),vI vU (wd X 3),vI vU (wd Y 0),vI vU (wd Y 1),vI vU (wd Y 2),vI vU (wd Y 3)] 39)).heap[w.heap.size]? = some (.cells #[vI vU (wd X 0),vI vU (wd X 1),vI vU (wd X 2),vI vU (wd X 3),vI vU (wd Y 0),vI vU (wd Y 1),vI vU (wd Y 2),vI vU (wd Y 3)] 39 (0,0)):=zar _ _
 have hB : Below w.heap.size w (w.alloc (.cells #[vI vU (wd X 0),vI vU (wd X 1),vI vU (wd X 2),vI vU (wd X 3),vI vU (wd Y 0),vI vU (wd Y 1),vI vU (wd Y 2),vI vU (wd Y 3)] 39)):=(Below.refl _ _).alloc (Nat.le_refl _) _
 go_enter Tryz.func43,Tryz.ntmps43
 go_upto_region 1 with (fail)
 generalize w.alloc (.cells #[vI vU (wd X 0),vI vU (wd X 1),vI vU (wd X 2),vI vU (wd X 3),vI vU (wd Y 0),vI vU (wd Y 1),vI vU (wd Y 2),vI vU (wd Y 3)] 39) = wz at *
 have x0 : wz.cell? ⟨w.heap.size,0,none⟩ = some (vI vU (wd X 0)):=(cell_of_row wz w.heap.size 0 _ _ _ hA).trans rfl
 have x1 : wz.cell? ⟨w.heap.size,1,none⟩ = some (vI vU (wd X 1)):=(cell_of_row wz w.heap.size 1 _ _ _ hA).trans rfl
 have x2 : wz.cell? ⟨w.heap.size,2,none⟩ = some (vI vU (wd X 2)):=(cell_of_row wz w.heap.size 2 _ _ _ hA).trans rfl
 have x3 : wz.cell? ⟨w.heap.size,3,none⟩ = some (vI vU (wd X 3)):=(cell_of_row wz w.heap.size 3 _ _ _ hA).trans rfl
 have y0 : wz.cell? ⟨w.heap.size,4,none⟩ = some (vI vU (wd Y 0)):=(cell_of_row wz w.heap.size 4 _ _ _ hA).trans rfl
 have y1 : wz.cell? ⟨w.heap.size,5,none⟩ = some (vI vU (wd Y 1)):=(cell_of_row wz w.heap.size 5 _ _ _ hA).trans rfl
 have y2 : wz.cell? ⟨w.heap.size,6,none⟩ = some (vI vU (wd Y 2)):=(cell_of_row wz w.heap.size 6 _ _ _ hA).trans rfl
 have y3 : wz.cell? ⟨w.heap.size,7,none⟩ = some (vI vU (wd Y 3)):=(cell_of_row wz w.heap.size 7 _ _ _ hA).trans rfl
 have lz:=(Array.getElem?_eq_some_iff.1 hA).1
 have H1:=veil (fun W => rbytes_own X W)
 have H2:=veil (fun W => rbytes_own Y W)
 clear hA
 go_region_held3 (fun w' => (∀ b o,b < wz.heap.size → w'.cell? ⟨b,o,none⟩ = wz.cell? ⟨b,o,none⟩) ∧ Below wz.heap.size wz w')
  (first
   | with_reducible assumption
   | with_reducible exact keep_drew _
   | exact hS3
   | with_reducible exact keep_old (by assumption) (by assumption)
   | fail)
  (first
   | (go_at_call 69; first
     | ((with_reducible refine (H1.out _).mono ?_); rintro e w1 ⟨g1,c1,rfl,hc1,hg1,ho1,hb1⟩)
     | ((with_reducible refine (H2.out _).mono ?_); rintro e w2 ⟨g2,c2,rfl,hc2,hg2,ho2,hb2⟩))
   | ((with_reducible refine at_slotR 9 ?_); refine step_append_from _ rfl _ _ 29 rfl wz.heap.size 5 i8 (.int .u8 0) 1 Tryz.underlying29 HI.out.1 HI.out.2.1 HI.out.2.2.1 HI.out.2.2.2 rfl (.slice (some ⟨g1,0,none⟩) 32 c1) 32 _ rfl (ho1.below hb2 (Nat.le_refl _)) (some ⟨g2,0,none⟩) 32 c2 rfl _ (from_own ho2) (fun _ => rfl) (by unfold maxLen; omega) (by omega) (Nat.le_trans hb1.size hb2.size) ?_; intro v3 w3 hO3 hg3 _ _; have hX:=keep_old hb2 (keep_old hb1 (keep_drew wz)); have hb3 : Below wz.heap.size wz w3:=hX.2.grown hg3 hX.2.size (fun k e => (ho1.lt e).1); have hS3:=And.intro (fun b o (h : b < wz.heap.size) => hb3.cell (p:=⟨b,o,none⟩) h) hb3; obtain ⟨g3,c3,rfl,-,hg3',-⟩:=hO3.pre (by omega)))
 rename (_ ∧ Below wz.heap.size wz _) => hH
 have hfin : Own w3 w.heap.size 5 (.slice (some ⟨g3,0,none⟩) 64 c3) 64 (ptB X Y):=hO3.base_le hB.size
 clear x0 x1 x2 x3 y0 y1 y2 y3 hO3
 go_wp2
 go_ret
 exact ⟨g3,c3,rfl,Nat.le_trans hB.size hg3',hfin,hB.trans (hH.2.mono hB.size)⟩
theorem texts_len {bs : List Nat} {many : Nat} {l : List (List Nat)} (h : textsB bs many = some l) {i : Nat} (hi : i < l.length) : (l.getD i []).length ≤ 65535:=by
 unfold textsB at h
 cases hg : getFs bs with
 | none => rw [hg] at h; cases h
 | some fs =>
  rw [hg] at h
  simp only at h
  split at h
  ·
   injection h with h
   subst h
   rw [zdg] at hi
   rw [zei]
   exact (ziv (zjc hg).2 hi).2.2.1
  ·
   cases h
theorem texts_parts {bs : List Nat} {l : List (List Nat)} (h : textsB bs 2 = some l) : partsB bs = if (l.getD 1 []).length = 64 then some (l.getD 0 [],sigR (l.getD 1 []),sigS (l.getD 1 [])) else none:=by
 unfold textsB at h
 unfold partsB
 cases hg : getFs bs with
 | none => rw [hg] at h; cases h
 | some fs =>
  rw [hg] at h
  simp only at h ⊢
  split at h
  ·
   rename_i hk
   injection h with h
   subst h
   simp only [zei]
   by_cases hq : (bsF fs 1).length = 64
   ·
    rw [if_pos hq,if_pos]
    exact ⟨hk.1,hk.2 0 (by decide),hk.2 1 (by decide),hq⟩
   ·
    rw [if_neg hq,if_neg]
    exact fun hn => hq hn.2.2.2
  ·
   cases h
theorem texts_parts_none {bs : List Nat} (h : textsB bs 2 = none) : partsB bs = none:=by
 unfold textsB at h
 unfold partsB
 cases hg : getFs bs with
 | none => rfl
 | some fs =>
  rw [hg] at h
  simp only at h ⊢
  split at h
  ·
   cases h
  ·
   rename_i hn
   rw [if_neg]
   refine fun hk => hn ⟨hk.1,fun i hi => ?_⟩
   match i,hi with
   | 0,_ => exact hk.2.1
   | 1,_ => exact hk.2.2.1
theorem ob_no {A : Option Addr} {m c : Nat} {bs : List Nat} (hm : m = bs.length) (hmc : m ≤ c) (hle : m ≤ 100000000) (h : obB bs = none) (w : World) (hS : Bs w A bs) :
  Calls Tryz.prog 46 #[.slice A m c] w fun e w' => e = .returned (.tuple #[.agg (tkC ⟨0,0,0,0,0⟩),.iface 35 (.int .i64 2)]) ∧ Ext w w' :=
 (zgt A m c bs hm hmc hle w hS).mono fun _ _ ⟨T,ev,he,hE,hA⟩ => by
  rcases hA with ⟨_,rfl,rfl⟩ | ⟨t,h1,_⟩
  ·
   exact ⟨he,hE⟩
  ·
   rw [h] at h1; cases h1
theorem ob_yes {A : Option Addr} {m c : Nat} {bs : List Nat} {t : Tk} (hm : m = bs.length) (hmc : m ≤ c) (hle : m ≤ 100000000) (h : obB bs = some t) (w : World) (hS : Bs w A bs) :
  Calls Tryz.prog 46 #[.slice A m c] w fun e w' => e = .returned (.tuple #[.agg (tkC t),.nilIface]) ∧ Ext w w' :=
 (zgt A m c bs hm hmc hle w hS).mono fun _ _ ⟨T,ev,he,hE,hA⟩ => by
  rcases hA with ⟨h1,_⟩ | ⟨t',h1,rfl,rfl⟩
  ·
   rw [h] at h1; cases h1
  ·
   rw [h] at h1
   injection h1 with h1
   subst h1
   exact ⟨he,hE⟩
theorem open9_calls (C : CodeL) (A : Option Addr) (m c : Nat) (bs : List Nat) (hm : m = bs.length) (hmc : m ≤ c) (hle : m ≤ 100000000) (w : World) (hS : Bs w A bs) :
  Calls Tryz.prog 16 #[.slice A m c] w fun e w' => ∃ T G ev,e = .returned (.tuple #[.agg T,.agg G,ev]) ∧ Ext w w' ∧ OpenC bs T G ev:=by
 have KG:=veil (fun W (hW : Bs W A bs) => tget_calls A m c bs 2 hm hmc hle (by decide) W hW)
 have k2:=neNil2
 have k3:=neNilN
 have HB:=veil hS
 clear hm hmc hle hS
 go_enter Tryz.func16,Tryz.ntmps16
 go_upto_region 1 with (fail)
 obtain ⟨g2,hg2⟩ : ∃ g,g = w.heap.size:=⟨_,rfl⟩
 obtain ⟨g3,hg3⟩ : ∃ g,g = w.heap.size + 1:=⟨_,rfl⟩
 obtain ⟨w0,hw0⟩ : ∃ W,W = (w.alloc (.cells TZ 23)).alloc (.cells Z8 39):=⟨_,rfl⟩
 have h2:=(zbs w (.cells TZ 23) (.cells Z8 39)).1
 have h3:=(zbs w (.cells TZ 23) (.cells Z8 39)).2
 have hE0:=zfj w (.cells TZ 23) (.cells Z8 39)
 rw [← hw0,← hg2] at h2
 rw [← hw0,← hg3] at h3
 rw [← hw0] at hE0
 have H0:=veil (And.intro hE0 (And.intro h2 (And.intro h3 (And.intro (show w.heap.size ≤ g2 by omega) (show g2 < g3 by omega)))))
 unfold TZ Z8 at hw0
 rw [← hw0,← hg3,← hg2]
 clear hw0 hg3 hg2 hE0 h2 h3
 go_upto_region 2 with (go_at_call 45; refine (KG.out w0 (HB.out.ext H0.out.1)).mono ?_; rintro e w1 ⟨x,ev,rfl,hE1,hA⟩)
 have H1:=veil (And.intro (H0.out.1.trans hE1) (And.intro (hE1.block H0.out.2.1) (And.intro (hE1.block H0.out.2.2.1) H0.out.2.2.2)))
 clear hE1 H0 KG
 rcases hA with ⟨hn,⟨A2,c2,rfl⟩,rfl⟩ | ⟨l,hs,hl2,hV,rfl⟩
 ·
  have hr:=zid (texts_parts_none hn)
  clear hn
  go_wp2_with (first
   | ((with_reducible refine zaw ?_); refine wpList_store_row rfl 23 _ _ rfl g2 TZ rfl rfl 23 _ H1.out.2.1 iTZ rfl zfy ?_)
   | ((with_reducible refine zaw ?_); refine wpList_store_row rfl 39 _ _ rfl g3 Z8 rfl rfl 39 _ (zen TZ H1.out.2.2.1 H1.out.2.2.2.2) iZ8 rfl z8_one ?_))
  have hF:=zex (T:=TZ) (G:=Z8) H1.out.1 H1.out.2.1 H1.out.2.2.1 ⟨H1.out.2.2.2.1,H1.out.2.2.2.2⟩
  refine bodyPost_ret (zdh rfl _ _ g2 g3 23 39 TZ Z8 (0,0) (0,0) _ _ rfl hF.2.1 Tryz.underlying23 rfl iTZ rfl hF.2.2 Tryz.underlying39 rfl iZ8) rfl ⟨_,_,_,rfl,hF.1,.inl ⟨hr,tz_tk,z8_gc,rfl⟩⟩
 ·
  have hpt:=texts_parts hs
  have hx0:=texts_len hs (i:=0) (by omega)
  obtain ⟨_,AL,cl,rfl,hcl,hx⟩:=hV
  rw [hl2] at hx hcl ⊢
  obtain ⟨b,o,hAL,hb,hx⟩:=hx.resolve_left (by decide)
  obtain ⟨A0,k0,c0,hk0,hB0⟩:=hx 0 (by decide)
  obtain ⟨A1,k1,c1,hk1,hB1⟩:=hx 1 (by decide)
  obtain ⟨x0,hx0e⟩ : ∃ x,x = l.getD 0 []:=⟨_,rfl⟩
  obtain ⟨x1,hx1e⟩ : ∃ x,x = l.getD 1 []:=⟨_,rfl⟩
  rw [← hx0e,← hx1e] at hpt
  rw [← hx0e] at c0 hk0 hB0 hx0
  rw [← hx1e] at c1 hk1 hB1
  obtain ⟨L0,hL0⟩ : ∃ L,L = x0.length:=⟨_,rfl⟩
  obtain ⟨L1,hL1⟩ : ∃ L,L = x1.length:=⟨_,rfl⟩
  rw [← hL0] at c0 hk0 hx0
  rw [← hL1] at c1 hk1 hpt
  have HP:=veil hpt
  have HL1:=veil (And.intro hL1 hk1)
  rw [Nat.add_zero] at c0
  subst hAL
  clear hx hs hx0e hx1e hpt
  cases hob : obB x0 with
  | none =>
   have KO:=veil (fun W (hW : Bs W A0 x0) => ob_no hL0 hk0 (by omega) hob W hW)
   have hr : openB bs = none:=by
    have h:=HP.out
    split at h
    ·
     rw [openB_ob h,hob]; rfl
    ·
     exact zid h
   have HR:=veil hr
   have HB0:=veil hB0
   clear hob hr HP hB0 hB1 hk0 hk1 hx0 hL0 hL1
   go_upto_region 5 with (first
    | (go_at_call 46; refine (KO.out _ HB0.out).mono ?_; rintro e w2 ⟨rfl,hE2⟩)
    | ((with_reducible refine zaw ?_); refine wpList_store_row rfl 23 _ _ rfl w2.heap.size (tkC ⟨0,0,0,0,0⟩) rfl rfl 23 _ (zar w2 _) (iTk _) rfl (zde _) ?_; rw [World.setRow_alloc_new]))
   have hE3:=hE2.trans (Ext.alloc w2 (.cells (tkC ⟨0,0,0,0,0⟩) 23))
   generalize w2.alloc (.cells (tkC ⟨0,0,0,0,0⟩) 23) = w3 at *
   have H3:=veil (And.intro (H1.out.1.trans hE3) (And.intro (hE3.block H1.out.2.1) (And.intro (hE3.block H1.out.2.2.1) trivial)))
   clear hE3 c0 c1 hE2
   go_wp2_with (first
    | ((with_reducible refine zaw ?_); refine wpList_store_row rfl 23 _ _ rfl g2 TZ rfl rfl 23 _ H3.out.2.1 iTZ rfl zfy ?_)
    | ((with_reducible refine zaw ?_); refine wpList_store_row rfl 39 _ _ rfl g3 Z8 rfl rfl 39 _ (zen TZ H3.out.2.2.1 H1.out.2.2.2.2) iZ8 rfl z8_one ?_))
   have hF:=zex (T:=TZ) (G:=Z8) H3.out.1 H3.out.2.1 H3.out.2.2.1 ⟨H1.out.2.2.2.1,H1.out.2.2.2.2⟩
   refine bodyPost_ret (zdh rfl _ _ g2 g3 23 39 TZ Z8 (0,0) (0,0) _ _ rfl hF.2.1 Tryz.underlying23 rfl iTZ rfl hF.2.2 Tryz.underlying39 rfl iZ8) rfl ⟨_,_,_,rfl,hF.1,.inl ⟨HR.out,tz_tk,z8_gc,rfl⟩⟩
  | some t =>
   have KO:=veil (fun W (hW : Bs W A0 x0) => ob_yes hL0 hk0 (by omega) hob W hW)
   have HOB:=veil hob
   have HB0:=veil (And.intro hB0 hB1)
   clear hob hB0 hB1 hk0 hk1 hx0 hL0 hL1
   go_upto_region 5 with (first
    | (go_at_call 46; refine (KO.out _ HB0.out.1).mono ?_; rintro e w2 ⟨rfl,hE2⟩)
    | ((with_reducible refine zaw ?_); refine wpList_store_row rfl 23 _ _ rfl w2.heap.size (tkC t) rfl rfl 23 _ (zar w2 _) (iTk _) rfl (zde _) ?_; rw [World.setRow_alloc_new]))
   have hE3:=hE2.trans (Ext.alloc w2 (.cells (tkC t) 23))
   have h7:=zar w2 (.cells (tkC t) 23)
   generalize w2.alloc (.cells (tkC t) 23) = w3 at *
   generalize w2.heap.size = g7 at *
   have H3:=veil (And.intro (H1.out.1.trans hE3) (And.intro (hE3.block H1.out.2.1) (And.intro (hE3.block H1.out.2.2.1) (And.intro h7 hE3))))
   replace c1:=(hE3.cell hb).trans c1
   clear hE3 h7 c0 hE2 KO
   by_cases h64 : L1 = 64
   ·
    have KP:=veil (fun W (hW : Bs W A1 x1) => C.parse_64 A1 L1 k1 x1 W HL1.out.1 h64 HL1.out.2 hW)
    have hp:=HP.out
    rw [if_pos h64] at hp
    have hr : openB bs = some (t,sigR x1,sigS x1):=by rw [openB_ob hp,HOB.out]; rfl
    have HR:=veil hr
    clear hp hr h64 HP HOB HL1
    go_upto_region 8 with (first
     | (go_at_call 47; refine (KP.out _ (HB0.out.2.ext H3.out.2.2.2.2)).mono ?_; rintro e w4 ⟨rfl,hE4⟩)
     | ((with_reducible refine zaw ?_); refine wpList_store_row rfl 39 _ _ rfl w4.heap.size (gc (sigR x1) (sigS x1)) rfl rfl 39 _ (zar w4 _) (iSg _ _) rfl (zcf _ _) ?_; rw [World.setRow_alloc_new]))
    have hE5:=hE4.trans (Ext.alloc w4 (.cells (gc (sigR x1) (sigS x1)) 39))
    have h8:=zar w4 (.cells (gc (sigR x1) (sigS x1)) 39)
    have h38 : g3 < w4.heap.size:=by
     have h:=(Array.getElem?_eq_some_iff.mp (hE4.block H3.out.2.2.1)).1
     omega
    generalize w4.alloc (.cells (gc (sigR x1) (sigS x1)) 39) = w5 at *
    generalize w4.heap.size = g8 at *
    have H7:=veil (And.intro (H3.out.1.trans hE5) (And.intro (hE5.block H3.out.2.1) (And.intro (hE5.block H3.out.2.2.1) (And.intro h8 (And.intro (hE5.block H3.out.2.2.2.1) (And.intro H1.out.2.2.2.1 (And.intro H1.out.2.2.2.2 h38)))))))
    clear hE5 h8 h38 hE4 c1 hb H3 H1 HB0 KP
    go_upto_region 10 with (fail)
    have n26 : g8 ≠ g2:=by have h:=H7.out.2.2.2.2.2.2; omega
    have n32 : g3 ≠ g2:=by have h:=H7.out.2.2.2.2.2.2; omega
    refine wp_tree (by kernel_rfl) fun Q' hQ' => ?_
    refine G_two (i:=0) (j:=1) (by kernel_rfl) ?_ ?_
    ·
     refine G_val _ rfl rfl rfl (fun W hW => zcq rfl rfl (hW.block H7.out.2.2.2.2.1) Tryz.underlying23 rfl (iTk t)) ?_
     simp only [aP,lA,lZ,lS]
     refine G_two (i:=1) (j:=2) (by kernel_rfl) ?_ ?_
     ·
      refine G_val _ rfl rfl rfl (fun W hW => zcq rfl rfl (hW.block (H7.out.2.2.2.1)) Tryz.underlying39 rfl (iSg _ _)) ?_
      simp only [aP,lA,lZ,lS]
      refine G_one (j:=2) (by kernel_rfl) ?_
      refine zht (cells:=tkC t) _ rfl rfl rfl rfl rfl rfl H7.out.2.1 (iTk t) rfl (zde t) ?_
      intro W8 hB8 h8
      refine G_one (j:=3) (by kernel_rfl) ?_
      refine zht (cells:=gc (sigR x1) (sigS x1)) _ rfl rfl rfl rfl rfl rfl (but_far hB8 H7.out.2.2.1 n32) (iSg _ _) rfl (zcf _ _) ?_
      intro W9 hB9 h9
      refine G_one (j:=4) (by kernel_rfl) ?_
      refine G_val _ rfl rfl rfl (fun W hW => zep rfl rfl W) ?_
      simp only [aP,lA,lZ,lS]
      refine G_end (by kernel_rfl) hQ' fun W10 hE10 => ?_
      have hF:=two_buts H7.out.1 ⟨H7.out.2.2.2.2.2.1,H7.out.2.2.2.2.2.2.1⟩ hB8 h8 hB9 h9 hE10
      clear hB8 h8 hB9 h9 hE10 n26 n32
      go_wp2
      refine bodyPost_ret (zdh rfl _ _ g2 g3 23 39 (tkC t) (gc (sigR x1) (sigS x1)) (0,0) (0,0) _ _ rfl hF.2.1 Tryz.underlying23 rfl (iTk t) rfl hF.2.2 Tryz.underlying39 rfl (iSg _ _)) rfl ⟨_,_,_,rfl,hF.1,.inr ⟨_,_,_,HR.out,rfl,rfl,rfl⟩⟩
     ·
      refine zht (cells:=tkC t) _ rfl rfl rfl rfl rfl rfl H7.out.2.1 (iTk t) rfl (zde t) ?_
      intro W8 hB8 h8
      refine G_one (j:=1) (by kernel_rfl) ?_
      refine G_val _ rfl rfl rfl (fun W hW => zcq rfl rfl (hW.block (but_far hB8 H7.out.2.2.2.1 n26)) Tryz.underlying39 rfl (iSg _ _)) ?_
      simp only [aP,lA,lZ,lS]
      refine G_one (j:=3) (by kernel_rfl) ?_
      refine zht (cells:=gc (sigR x1) (sigS x1)) _ rfl rfl rfl rfl rfl rfl (but_far hB8 H7.out.2.2.1 n32) (iSg _ _) rfl (zcf _ _) ?_
      intro W9 hB9 h9
      refine G_one (j:=4) (by kernel_rfl) ?_
      refine G_val _ rfl rfl rfl (fun W hW => zep rfl rfl W) ?_
      simp only [aP,lA,lZ,lS]
      refine G_end (by kernel_rfl) hQ' fun W10 hE10 => ?_
      have hF:=two_buts H7.out.1 ⟨H7.out.2.2.2.2.2.1,H7.out.2.2.2.2.2.2.1⟩ hB8 h8 hB9 h9 hE10
      clear hB8 h8 hB9 h9 hE10 n26 n32
      go_wp2
      refine bodyPost_ret (zdh rfl _ _ g2 g3 23 39 (tkC t) (gc (sigR x1) (sigS x1)) (0,0) (0,0) _ _ rfl hF.2.1 Tryz.underlying23 rfl (iTk t) rfl hF.2.2 Tryz.underlying39 rfl (iSg _ _)) rfl ⟨_,_,_,rfl,hF.1,.inr ⟨_,_,_,HR.out,rfl,rfl,rfl⟩⟩
    ·
     refine G_val _ rfl rfl rfl (fun W hW => zcq rfl rfl (hW.block (H7.out.2.2.2.1)) Tryz.underlying39 rfl (iSg _ _)) ?_
     simp only [aP,lA,lZ,lS]
     refine G_one (j:=0) (by kernel_rfl) ?_
     refine G_val _ rfl rfl rfl (fun W hW => zcq rfl rfl (hW.block H7.out.2.2.2.2.1) Tryz.underlying23 rfl (iTk t)) ?_
     simp only [aP,lA,lZ,lS]
     refine G_one (j:=2) (by kernel_rfl) ?_
     refine zht (cells:=tkC t) _ rfl rfl rfl rfl rfl rfl H7.out.2.1 (iTk t) rfl (zde t) ?_
     intro W8 hB8 h8
     refine G_one (j:=3) (by kernel_rfl) ?_
     refine zht (cells:=gc (sigR x1) (sigS x1)) _ rfl rfl rfl rfl rfl rfl (but_far hB8 H7.out.2.2.1 n32) (iSg _ _) rfl (zcf _ _) ?_
     intro W9 hB9 h9
     refine G_one (j:=4) (by kernel_rfl) ?_
     refine G_val _ rfl rfl rfl (fun W hW => zep rfl rfl W) ?_
     simp only [aP,lA,lZ,lS]
     refine G_end (by kernel_rfl) hQ' fun W10 hE10 => ?_
     have hF:=two_buts H7.out.1 ⟨H7.out.2.2.2.2.2.1,H7.out.2.2.2.2.2.2.1⟩ hB8 h8 hB9 h9 hE10
     clear hB8 h8 hB9 h9 hE10 n26 n32
     go_wp2
     refine bodyPost_ret (zdh rfl _ _ g2 g3 23 39 (tkC t) (gc (sigR x1) (sigS x1)) (0,0) (0,0) _ _ rfl hF.2.1 Tryz.underlying23 rfl (iTk t) rfl hF.2.2 Tryz.underlying39 rfl (iSg _ _)) rfl ⟨_,_,_,rfl,hF.1,.inr ⟨_,_,_,HR.out,rfl,rfl,rfl⟩⟩
   ·
    have KP:=veil (fun W => C.parse_no A1 L1 k1 W h64)
    have hp:=HP.out
    rw [if_neg h64] at hp
    have hr:=zid hp
    have HR:=veil hr
    clear hp hr h64 HP HOB HL1 HB0
    go_upto_region 8 with (first
     | (go_at_call 47; refine (KP.out _).mono ?_; rintro e w4 ⟨rfl,hE4⟩)
     | ((with_reducible refine zaw ?_); refine wpList_store_row rfl 39 _ _ rfl w4.heap.size (gc 0 0) rfl rfl 39 _ (zar w4 _) (iSg _ _) rfl (zcf _ _) ?_; rw [World.setRow_alloc_new]))
    have hE5:=hE4.trans (Ext.alloc w4 (.cells (gc 0 0) 39))
    generalize w4.alloc (.cells (gc 0 0) 39) = w5 at *
    have H5:=veil (And.intro (H3.out.1.trans hE5) (And.intro (hE5.block H3.out.2.1) (And.intro (hE5.block H3.out.2.2.1) trivial)))
    clear hE5 hE4 c1
    go_wp2_with (first
     | ((with_reducible refine zaw ?_); refine wpList_store_row rfl 23 _ _ rfl g2 TZ rfl rfl 23 _ H5.out.2.1 iTZ rfl zfy ?_)
     | ((with_reducible refine zaw ?_); refine wpList_store_row rfl 39 _ _ rfl g3 Z8 rfl rfl 39 _ (zen TZ H5.out.2.2.1 H1.out.2.2.2.2) iZ8 rfl z8_one ?_))
    have hF:=zex (T:=TZ) (G:=Z8) H5.out.1 H5.out.2.1 H5.out.2.2.1 ⟨H1.out.2.2.2.1,H1.out.2.2.2.2⟩
    refine bodyPost_ret (zdh rfl _ _ g2 g3 23 39 TZ Z8 (0,0) (0,0) _ _ rfl hF.2.1 Tryz.underlying23 rfl iTZ rfl hF.2.2 Tryz.underlying39 rfl iZ8) rfl ⟨_,_,_,rfl,hF.1,.inl ⟨HR.out,tz_tk,z8_gc,rfl⟩⟩
theorem openC_all {bs : List Nat} {T G : Array Value} {ev : Value} (h : OpenC bs T G ev) : ∃ t r s,T = tkC t ∧ G = gc r s ∧ ((openB bs = none ∧ ev = .iface 35 (.int .i64 2)) ∨ (openB bs = some (t,r,s) ∧ ev = .nilIface)):=by
 rcases h with ⟨h,rfl,rfl,rfl⟩ | ⟨t,r,s,h,rfl,rfl,rfl⟩
 ·
  exact ⟨_,_,_,rfl,rfl,.inl ⟨h,rfl⟩⟩
 ·
  exact ⟨_,_,_,rfl,rfl,.inr ⟨h,rfl⟩⟩
theorem bodyA_ok {w' : World} {t : Tk} {x ev : Value} (h : BodyA w' t x ev) (hm : mayT t = true) : ∃ A c,x = .slice A 55 c ∧ 55 ≤ c ∧ Bs w' A (tkB t) ∧ ev = .nilIface:=by
 rcases h with ⟨h,_⟩ | ⟨_,⟨A,c,e,hc,hB⟩,he⟩
 ·
  rw [hm] at h; cases h
 ·
  exact ⟨A,c,e,hc,hB,he⟩
theorem check9_calls (C : CodeL) (X Y : Nat) (f : Bool) (hX : X < top) (hY : Y < top) (A : Option Addr) (m c : Nat) (bs : List Nat) (hm : m = bs.length) (hmc : m ≤ c) (hle : m ≤ 100000000) (w : World) (hK : KT w) (hS : Bs w A bs) :
  Calls Tryz.prog 18 #[.slice A m c,qv X Y f] w fun e w' => e = .returned (.tuple #[tkV (checkB lowL X Y f bs).1,errV (checkB lowL X Y f bs).2]) ∧ Ext w w':=by
 have KO:=veil (fun W => open9_calls C A m c bs hm hmc hle W)
 have k2:=neNil2
 have k3:=neNilN
 have HB:=veil (And.intro hS hK)
 have HX:=veil (And.intro hX hY)
 obtain ⟨Q,hC⟩ : ∃ C,C = qc X Y f:=⟨_,rfl⟩
 have HC:=veil (And.intro hC (And.intro (show (Tryz.prog.info? 48).map (·.size) = some Q.size by rw [hC]; exact iT X Y f) (show Q.all (·.oneCell') = true by rw [hC]; exact zdr X Y f)))
 unfold qv
 rw [← hC]
 clear hm hmc hle hS hX hY hC hK
 go_enter Tryz.func18,Tryz.ntmps18
 go_upto_region 1 with (fail)
 obtain ⟨g3,hg3⟩ : ∃ g,g = w.heap.size:=⟨_,rfl⟩
 obtain ⟨g4,hg4⟩ : ∃ g,g = w.heap.size + 1:=⟨_,rfl⟩
 obtain ⟨w0,hw0⟩ : ∃ W,W = (w.alloc (.cells Q 48)).alloc (.cells TZ 23):=⟨_,rfl⟩
 have h3:=(zbs w (.cells Q 48) (.cells TZ 23)).1
 have h4:=(zbs w (.cells Q 48) (.cells TZ 23)).2
 have hE0:=zfj w (.cells Q 48) (.cells TZ 23)
 rw [← hw0,← hg3] at h3
 rw [← hw0,← hg4] at h4
 rw [← hw0] at hE0
 have H0:=veil (And.intro hE0 (And.intro h3 (And.intro h4 (And.intro (show w.heap.size ≤ g4 by omega) (HB.out.1.ext hE0)))))
 unfold TZ at hw0
 rw [← hw0,← hg4,← hg3]
 clear hw0 hg3 hg4 hE0 h3 h4
 go_upto_region 2 with (first
  | (go_at_call 16; refine (KO.out w0 H0.out.2.2.2.2).mono ?_; rintro e w1 ⟨T,G,ev,rfl,hE1,hA⟩; obtain ⟨t,r,s,rfl,rfl,hY⟩:=openC_all hA)
  | ((with_reducible refine zaw ?_); refine wpList_store_row rfl 23 _ _ rfl w1.heap.size (tkC t) rfl rfl 23 _ (zbs w1 _ _).1 (iTk t) rfl (zde t) ?_)
  | ((with_reducible refine zaw ?_); refine wpList_store_row rfl 39 _ _ rfl (w1.heap.size + 1) (gc r s) rfl rfl 39 _ (zen _ (zbs w1 _ _).2 (Nat.lt_succ_self _)) (iSg r s) rfl (zcf r s) ?_))
 have hF:=zex (T:=tkC t) (G:=gc r s) (zfj w1 (.cells TZ 23) (.cells Z8 39)) (zbs w1 _ _).1 (zbs w1 _ _).2 ⟨Nat.le_refl _,Nat.lt_succ_self _⟩
 have hE0:=H0.out.1.trans hE1
 have h31:=(hE1.trans hF.1).block H0.out.2.1
 have h41:=(hE1.trans hF.1).block H0.out.2.2.1
 have hE2:=hE0.trans hF.1
 have h6:=hF.2.1
 have h7:=hF.2.2
 clear hF hE0 hE1 hA
 obtain ⟨g6,hg6⟩ : ∃ g,g = w1.heap.size:=⟨_,rfl⟩
 obtain ⟨g7,hg7⟩ : ∃ g,g = w1.heap.size + 1:=⟨_,rfl⟩
 rw [← hg7,← hg6] at hE2 h6 h7 h31 h41 ⊢
 obtain ⟨w2,hw2⟩ : ∃ W,W = (((w1.alloc (.cells TZ 23)).alloc (.cells Z8 39)).setRow g6 (tkC t)).setRow g7 (gc r s):=⟨_,rfl⟩
 rw [← hw2] at hE2 h6 h7 h31 h41
 unfold TZ Z8 at hw2
 rw [← hw2]
 have H2:=veil (And.intro hE2 (And.intro h31 (And.intro h41 (And.intro h6 (And.intro h7 H0.out.2.2.2.1)))))
 have HY:=veil hY
 clear hw2 hg6 hg7 hE2 h31 h41 h6 h7 hY KO H0
 rcases HY.out with ⟨hp,rfl⟩ | ⟨hp,rfl⟩
 ·
  have hr:=checkB_none (L:=lowL) (X:=X) (Y:=Y) (f:=f) hp
  clear HY hp
  go_wp2_with ((with_reducible refine zaw ?_); refine wpList_store_row rfl 23 _ _ rfl g4 TZ rfl rfl 23 _ H2.out.2.2.1 iTZ rfl zfy ?_)
  refine bodyPost_ret (zdi rfl _ _ g4 23 TZ (0,0) _ rfl (setRow_heap w2 g4 _ TZ 23 (0,0) H2.out.2.2.1) Tryz.underlying23 rfl iTZ) rfl ⟨by rw [hr]; rfl,zbj H2.out.1 H2.out.2.2.2.2.2 _⟩
 ·
  have hr : checkB lowL X Y f bs = if vfL X Y f (dgL (tkB t)) r s = true then (t,0) else (⟨0,0,0,0,0⟩,8):=checkB_some (L:=lowL) (X:=X) (Y:=Y) (f:=f) hp
  have hso:=zgn HB.out.1.1 hp
  have HR:=veil hr
  have HO:=veil hso
  have KB:=veil (fun W => zhg t W)
  unfold tkV at KB
  clear HY hp hr hso
  go_upto_region 5 with (first
   | ((with_reducible refine zas 22 ?_); refine wpList_load_row rfl 23 _ rfl g6 rfl 23 (tkC t) (0,0) _ H2.out.2.2.2.1 Tryz.underlying23 rfl (iTk t) ?_)
   | (go_at_call 8; refine (KB.out _).mono ?_; rintro e w4 ⟨x,ev,rfl,hE4,hA⟩; obtain ⟨A2,c2,rfl,hc2,hB4,rfl⟩:=bodyA_ok hA HO.out.2.1))
  have H4:=veil (And.intro (H2.out.1.trans hE4) (And.intro (hE4.block H2.out.2.1) (And.intro (hE4.block H2.out.2.2.1) (And.intro (hE4.block H2.out.2.2.2.1) (And.intro (hE4.block H2.out.2.2.2.2.1) (And.intro H2.out.2.2.2.2.2 hB4))))))
  clear hE4 hB4 H2 KB hA
  obtain ⟨v,hv⟩ : ∃ v,v = vfL X Y f (dgL (tkB t)) r s:=⟨_,rfl⟩
  have KS:=veil (fun W (hW : Ext w4 W) => C.sum A2 55 c2 (tkB t) W (zff HB.out.2 (H4.out.1.trans hW)) (zbt t).symm hc2 (by decide) (H4.out.2.2.2.2.2.2.ext hW))
  have KV : Hid (∀ W : World,Calls Tryz.prog 50 #[.agg Q,dgv (dgL (tkB t)),.agg (gc r s)] W fun e w' => e = .returned (.bool v) ∧ Ext W w'):=veil (fun W => by
   have h:=C.ver X Y f (dgL (tkB t)) r s W HX.out.1 HX.out.2 (by have:=HO.out.2.2.2.1; exact this) (by have:=HO.out.2.2.2.2; exact this) (dgL_lt _)
   unfold qv gv at h
   rw [← HC.out.1,← hv] at h
   exact h)
  have HV:=veil hv
  clear hv
  refine zfp 6 [(true,[0,1,2,3,4,5])] (by kernel_rfl) (by kernel_rfl) fun Q' hQ' => ?_
  refine' zdm (A:=_) _ rfl (by kernel_rfl) ?h1 ?h2
  case h1 =>
   intro D hD hN
   have K1:=veil (fun x : Gw D => hD.calls (v:=dgv (dgL (tkB t))) (fun W hW => KS.out W hW) x)
   have K2:=veil (fun x : Gw D => hD.calls (v:=.bool v) (fun W _ => KV.out W) x)
   simp only [pickI,consO,List.getElem?_cons_zero,List.getElem?_cons_succ]
   go_big_quiet_want
   refine zeu (.agg Q) (fun x => zcq rfl rfl (hD.block H4.out.2.1 x) Tryz.underlying48 rfl HC.out.2.1) ?_
   simp only [aP,lA,lZ,lS]
   go_big_quiet_on
   iterate 2 (go_big_quiet_step (exact K1.out _))
   go_big_quiet_want
   refine zeu (.agg (gc r s)) (fun x => zcq rfl rfl (hD.block H4.out.2.2.2.2.1 x) Tryz.underlying39 rfl (iSg r s)) ?_
   simp only [aP,lA,lZ,lS]
   go_big_quiet_on
   iterate 2 (go_big_quiet_step (exact K2.out _))
   exact zee
  refine zet hQ' fun w5 hE5 => ?_
  have H5:=veil (And.intro (H4.out.1.trans hE5) (And.intro (hE5.block H4.out.2.2.1) (And.intro (hE5.block H4.out.2.2.2.1) H4.out.2.2.2.2.2.1)))
  clear hE5 H4 KS KV
  cases v with
  | false =>
   have hr : checkB lowL X Y f bs = (⟨0,0,0,0,0⟩,8):=by rw [HR.out,← HV.out]; rfl
   go_wp2_with ((with_reducible refine zaw ?_); refine wpList_store_row rfl 23 _ _ rfl g4 TZ rfl rfl 23 _ H5.out.2.1 iTZ rfl zfy ?_)
   refine bodyPost_ret (zdi rfl _ _ g4 23 TZ (0,0) _ rfl (setRow_heap w5 g4 _ TZ 23 (0,0) H5.out.2.1) Tryz.underlying23 rfl iTZ) rfl ⟨by rw [hr]; rfl,zbj H5.out.1 H5.out.2.2.2 _⟩
  | true =>
   have hr : checkB lowL X Y f bs = (t,0):=by rw [HR.out,← HV.out]; rfl
   go_wp2_with (first
    | ((with_reducible refine zas 34 ?_); refine wpList_load_row rfl 23 _ rfl g6 rfl 23 (tkC t) (0,0) _ H5.out.2.2.1 Tryz.underlying23 rfl (iTk t) ?_)
    | ((with_reducible refine zaw ?_); refine wpList_store_row rfl 23 _ _ rfl g4 (tkC t) rfl rfl 23 _ H5.out.2.1 (iTk t) rfl (zde t) ?_))
   refine bodyPost_ret (zdi rfl _ _ g4 23 (tkC t) (0,0) _ rfl (setRow_heap w5 g4 _ (tkC t) 23 (0,0) H5.out.2.1) Tryz.underlying23 rfl (iTk t)) rfl ⟨by rw [hr]; rfl,zbj H5.out.1 H5.out.2.2.2 _⟩
end Go.Proofs.YtedehdbajiaaiaaGreatDoor
