/-
  Of FCut FCutn FAdd2 NS4 KH W2 KU FSub2 FMul2 C1 C2.
-/
import Derived.Deep.CutRange
import Derived.Test.YtedehdbajiaaiaaGreatDoorZB20
import Derived.Test.YtedehdbajiaaiaaGreatDoorZB19
import Derived.Test.YtedehdbajiaaiaaGreatDoorZB4
import Derived.Test.YtedehdbajiaaiaaGreatDoorZB10
import Derived.Test.YtedehdbajiaaiaaGreatDoorZB16
import Derived.Test.YtedehdbajiaaiaaGreatDoorZB9
import Derived.Test.YtedehdbajiaaiaaGreatDoorZB2
import Derived.Test.YtedehdbajiaaiaaGreatDoorZB12
import Derived.Test.YtedehdbajiaaiaaGreatDoorZB15
import Derived.Test.YtedehdbajiaaiaaGreatDoorZB6
import Derived.Test.YtedehdbajiaaiaaGreatDoorZB7
import Derived.Test.YtedehdbajiaaiaaGreatDoorZB18
import Derived.Test.YtedehdbajiaaiaaGreatDoorZB13
import Derived.Test.YtedehdbajiaaiaaGreatDoorZB21
set_option maxRecDepth 1000000
set_option maxHeartbeats 20000000
namespace Go.Proofs.YtedehdbajiaaiaaGreatDoor
open Go.RowKit
open Go.Value renaming int → vI
open Go.IntKind renaming u64 → vU
open Go.Act renaming put → aP
open List renaming setIfInBounds_toArray → lA, set_cons_zero → lZ, set_cons_succ → lS
theorem kshr (b X M : Nat) (N : Int) (Q V Z : Nat) (hV : V * top % M = X % M) (hlt : X < M * top) (hX : X < top8) (hZ : V % M = Z) (hK : Fok M N Q) (w : World) (hF : Fb w b M N Q) :
  Calls Tryz.prog 156 #[.pointer (some ⟨b,0,none⟩),.agg #[vI vU (wd X 0),vI vU (wd X 1),vI vU (wd X 2),vI vU (wd X 3),vI vU (wd X 4),vI vU (wd X 5),vI vU (wd X 6),vI vU (wd X 7)]] w fun e w' => e = .returned (.agg #[vI vU (wd Z 0),vI vU (wd Z 1),vI vU (wd Z 2),vI vU (wd Z 3)]) ∧ Below w.heap.size w w':=by
 refine (shrunk_any b X M N Q hX hK w hF).mono ?_
 rintro e w' ⟨⟨Z',h1,h2,h3,rfl⟩,hb⟩
 have e1:=cut_top hK.odd (h2.trans hV.symm)
 rw [Nat.mod_eq_of_lt (h3 hlt),hZ] at e1
 subst e1
 exact ⟨rfl,hb⟩
theorem sq_num {Z X M : Nat} {N : Int} {Q : Nat} (hK : Fok M N Q) (h : Z * top % M = X % M) : X * top % M = Z * Q % M:=by
 rw [hK.q,Nat.mul_mod_mod,zjq,← Nat.mul_assoc,← Nat.mod_mul_mod (Z * top),h,Nat.mod_mul_mod]
theorem mul_lt8 {X Y : Nat} (hX : X < top) (hY : Y < top) : X * Y < top8:=by
 rw [zjq]; exact Nat.mul_lt_mul'' hX hY
theorem mul_ltm {X Q M : Nat} (hX : X < top) (hQ : Q < M) : X * Q < M * top:=by
 rw [Nat.mul_comm M]; exact Nat.mul_lt_mul'' hX hQ
theorem cutw_calls (b X M : Nat) (N : Int) (Q P : Nat) (hX : X < top8) (hK : Fok M N Q) (hP : X % M = P) (w : World) (hF : Fb w b M N Q) :
  Calls Tryz.prog 135 #[.pointer (some ⟨b,0,none⟩),.agg #[vI vU (wd X 0),vI vU (wd X 1),vI vU (wd X 2),vI vU (wd X 3),vI vU (wd X 4),vI vU (wd X 5),vI vU (wd X 6),vI vU (wd X 7)]] w fun e w' => e = .returned (.agg #[vI vU (wd P 0),vI vU (wd P 1),vI vU (wd P 2),vI vU (wd P 3)]) ∧ Below w.heap.size w w':=by
 have hQ:=hK.qm
 have hQt : Q < top:=by have:=hK.mt; omega
 have HX:=veil hX
 have HQ:=veil hQ
 have HP:=veil hP
 clear hX hQ hP
 have hA : ((w.alloc (.cells #[vI vU (wd X 0),vI vU (wd X 1),vI vU (wd X 2),vI vU (wd X 3),vI vU (wd X 4),vI vU (wd X 5),vI vU (wd X 6),vI vU (wd X 7)] 131)).alloc (.cells #[vI vU 0,vI vU 0,vI vU 0,vI vU 0] 26)).rowIs w.heap.size 131 8 (fun j => .int .u64 (wd X j)):=(zag (n:=8) (by simp) rfl (arr8 fun j => .int .u64 (wd X j))).alloc _
 have hR : ((w.alloc (.cells #[vI vU (wd X 0),vI vU (wd X 1),vI vU (wd X 2),vI vU (wd X 3),vI vU (wd X 4),vI vU (wd X 5),vI vU (wd X 6),vI vU (wd X 7)] 131)).alloc (.cells #[vI vU 0,vI vU 0,vI vU 0,vI vU 0] 26)).rowIs (w.heap.size + 1) 26 4 (fun _ => .int .u64 0):=zag (n:=4) (by simp) rfl (arr4 fun _ => .int .u64 0)
 have hbel : Below w.heap.size w ((w.alloc (.cells #[vI vU (wd X 0),vI vU (wd X 1),vI vU (wd X 2),vI vU (wd X 3),vI vU (wd X 4),vI vU (wd X 5),vI vU (wd X 6),vI vU (wd X 7)] 131)).alloc (.cells #[vI vU 0,vI vU 0,vI vU 0,vI vU 0] 26)):=((Below.refl _ _).alloc (by simp) _).alloc (by simp) _
 have hFr : Fb ((w.alloc (.cells #[vI vU (wd X 0),vI vU (wd X 1),vI vU (wd X 2),vI vU (wd X 3),vI vU (wd X 4),vI vU (wd X 5),vI vU (wd X 6),vI vU (wd X 7)] 131)).alloc (.cells #[vI vU 0,vI vU 0,vI vU 0,vI vU 0] 26)) b M N Q:=((hF).alloc _).alloc _
 have hbs:=hF.lt
 clear hF
 go_enter Tryz.func135,Tryz.ntmps135
 go_wp2_with fail
 generalize ((w.alloc (.cells #[vI vU (wd X 0),vI vU (wd X 1),vI vU (wd X 2),vI vU (wd X 3),vI vU (wd X 4),vI vU (wd X 5),vI vU (wd X 6),vI vU (wd X 7)] 131)).alloc (.cells #[vI vU 0,vI vU 0,vI vU 0,vI vU 0] 26)) = w0 at *
 obtain ⟨a0,a1,a2,a3,a4,a5,a6,a7⟩:=row_c8 hA
 obtain ⟨s0,s1,s2,s3⟩:=hFr.sq
 obtain ⟨f0,f1,f2,f3⟩:=zah hR
 obtain ⟨d0,d1,d2,d3⟩:=zac hR
 go_region_with (first
  | (go_at_call 156; refine (kshr b (Z * Q) M N Q X P (sq_num hK HZ.out) (mul_ltm hZt HQ.out) (mul_lt8 hZt hQt) HP.out hK _ (by exact hFr)).mono ?_; rintro e w3 ⟨rfl,hb3⟩; replace hR:=zab (by exact hR) hb3 (by exact hR.lt); replace hFr:=Fb.below (by exact hFr) hb3 (by exact hFr.lt); replace hbel:=Below.trans (by first | exact hbel | exact hbel.drew) (hb3.mono (by exact hbel.size)); obtain ⟨f0,f1,f2,f3⟩:=zah hR; obtain ⟨d0,d1,d2,d3⟩:=zac hR)
  | (go_at_call 156; refine (shrunk_any b X M N Q HX.out hK _ (by exact hFr)).mono ?_; rintro e w1 ⟨⟨Z,hZt,hZ1,_,rfl⟩,hb1⟩; replace hR:=zab (by exact hR) hb1 (by exact hR.lt); replace hFr:=Fb.below (by exact hFr) hb1 (by exact hFr.lt); replace hbel:=Below.trans (by first | exact hbel | exact hbel.drew) (hb1.mono (by exact hbel.size)); have HZ:=veil hZ1; clear hZ1; obtain ⟨s0,s1,s2,s3⟩:=hFr.sq)
  | (go_at_call 136; refine (kmul Z Q _ rfl hZt hQt _).mono ?_; rintro e w2 ⟨rfl,hb2⟩; replace hR:=zab (by exact hR) hb2 (by exact hR.lt); replace hFr:=Fb.below (by exact hFr) hb2 (by exact hFr.lt); replace hbel:=Below.trans (by first | exact hbel | exact hbel.drew) (hb2.mono (by exact hbel.size))))
 all_goals
  clear a0 a1 a2 a3 a4 a5 a6 a7 s0 s1 s2 s3 f0 f1 f2 f3 d0 d1 d2 d3
  go_wp2
  refine bodyPost_ret (results_cell_row rfl _ _ (w.heap.size + 1) 26 #[vI vU (wd P 0),vI vU (wd P 1),vI vU (wd P 2),vI vU (wd P 3)] (0,0) _ rfl (blk4 (put4 hR fun j => .int .u64 (wd (P) j))) Tryz.underlying26 rfl (by kernel_rfl)) rfl ⟨rfl,zaj hbel (by omega) _ _ _ _⟩
theorem top_lt8 {X : Nat} (h : X < top) : X < top8:=by
 rw [zjq]; exact Nat.lt_of_lt_of_le h (Nat.le_mul_of_pos_right _ zce)
theorem fcut_less (b X M : Nat) (N : Int) (Q P : Nat) (hX : X < top) (hK : Fok M N Q) (hP : X % M = P) (hl : X < M) (w : World) (hF : Fb w b M N Q) :
  Calls Tryz.prog 143 #[.pointer (some ⟨b,0,none⟩),.agg #[vI vU (wd X 0),vI vU (wd X 1),vI vU (wd X 2),vI vU (wd X 3)]] w fun e w' => e = .returned (.agg #[vI vU (wd P 0),vI vU (wd P 1),vI vU (wd P 2),vI vU (wd P 3)]) ∧ Below w.heap.size w w':=by
 obtain ⟨c,hc⟩ : ∃ c,c = cmpN X M:=⟨_,rfl⟩
 have hcn : c = -1:=by rw [hc]; unfold cmpN; rw [if_pos hl]
 have KC:=veil (fun W => kcmp X M c hc.symm hX hK.mt W)
 rw [Nat.mod_eq_of_lt hl] at hP
 subst hP
 subst hcn
 clear hc hl hX
 have hA : ((w.alloc (.cells #[vI vU (wd X 0),vI vU (wd X 1),vI vU (wd X 2),vI vU (wd X 3)] 26)).alloc (.cells #[vI vU 0,vI vU 0,vI vU 0,vI vU 0] 26)).rowIs w.heap.size 26 4 (fun j => .int .u64 (wd X j)):=(zag (n:=4) (by simp) rfl (arr4 fun j => .int .u64 (wd X j))).alloc _
 have hR : ((w.alloc (.cells #[vI vU (wd X 0),vI vU (wd X 1),vI vU (wd X 2),vI vU (wd X 3)] 26)).alloc (.cells #[vI vU 0,vI vU 0,vI vU 0,vI vU 0] 26)).rowIs (w.heap.size + 1) 26 4 (fun _ => .int .u64 0):=zag (n:=4) (by simp) rfl (arr4 fun _ => .int .u64 0)
 have hbel : Below w.heap.size w ((w.alloc (.cells #[vI vU (wd X 0),vI vU (wd X 1),vI vU (wd X 2),vI vU (wd X 3)] 26)).alloc (.cells #[vI vU 0,vI vU 0,vI vU 0,vI vU 0] 26)):=((Below.refl _ _).alloc (by simp) _).alloc (by simp) _
 have hFr : Fb ((w.alloc (.cells #[vI vU (wd X 0),vI vU (wd X 1),vI vU (wd X 2),vI vU (wd X 3)] 26)).alloc (.cells #[vI vU 0,vI vU 0,vI vU 0,vI vU 0] 26)) b M N Q:=((hF).alloc _).alloc _
 have hbs:=hF.lt
 clear hF
 go_enter Tryz.func143,Tryz.ntmps143
 go_wp2_with fail
 generalize ((w.alloc (.cells #[vI vU (wd X 0),vI vU (wd X 1),vI vU (wd X 2),vI vU (wd X 3)] 26)).alloc (.cells #[vI vU 0,vI vU 0,vI vU 0,vI vU 0] 26)) = w0 at *
 obtain ⟨a0,a1,a2,a3⟩:=zac hA
 obtain ⟨m0,m1,m2,m3⟩:=hFr.mod
 go_region_with (go_at_call 94; refine (KC.out _).mono ?_; rintro e w1 ⟨rfl,hb1⟩; replace hA:=zab (by exact hA) hb1 (by exact hA.lt); replace hR:=zab (by exact hR) hb1 (by exact hR.lt); replace hFr:=Fb.below (by exact hFr) hb1 (by exact hFr.lt); replace hbel:=Below.trans (by first | exact hbel | exact hbel.drew) (hb1.mono (by exact hbel.size)))
 all_goals
  clear a0 a1 a2 a3 m0 m1 m2 m3 hb1
  obtain ⟨a0,a1,a2,a3⟩:=zac hA
  obtain ⟨f0,f1,f2,f3⟩:=zah hR
  obtain ⟨d0,d1,d2,d3⟩:=zac hR
  go_wp2
  refine bodyPost_ret (results_cell_row rfl _ _ (w.heap.size + 1) 26 #[vI vU (wd X 0),vI vU (wd X 1),vI vU (wd X 2),vI vU (wd X 3)] (0,0) _ rfl (blk4 (put4 hR fun j => .int .u64 (wd (X) j))) Tryz.underlying26 rfl (by kernel_rfl)) rfl ⟨rfl,zaj hbel (by omega) _ _ _ _⟩
theorem fcut_more (b X M : Nat) (N : Int) (Q P : Nat) (hX : X < top) (hK : Fok M N Q) (hP : X % M = P) (hl : ¬ X < M) (w : World) (hF : Fb w b M N Q) :
  Calls Tryz.prog 143 #[.pointer (some ⟨b,0,none⟩),.agg #[vI vU (wd X 0),vI vU (wd X 1),vI vU (wd X 2),vI vU (wd X 3)]] w fun e w' => e = .returned (.agg #[vI vU (wd P 0),vI vU (wd P 1),vI vU (wd P 2),vI vU (wd P 3)]) ∧ Below w.heap.size w w':=by
 obtain ⟨c,hc⟩ : ∃ c,c = cmpN X M:=⟨_,rfl⟩
 have hcn : 0 ≤ c:=by rw [hc,cmp_ge]; exact hl
 have KC:=veil (fun W => kcmp X M c hc.symm hX hK.mt W)
 have K1:=veil (fun W => wide_calls X hX W)
 have K2:=veil (fun W (h : Fb W b M N Q) => cutw_calls b X M N Q P (top_lt8 hX) hK hP W h)
 clear hc hl hX hP
 have hA : ((w.alloc (.cells #[vI vU (wd X 0),vI vU (wd X 1),vI vU (wd X 2),vI vU (wd X 3)] 26)).alloc (.cells #[vI vU 0,vI vU 0,vI vU 0,vI vU 0] 26)).rowIs w.heap.size 26 4 (fun j => .int .u64 (wd X j)):=(zag (n:=4) (by simp) rfl (arr4 fun j => .int .u64 (wd X j))).alloc _
 have hR : ((w.alloc (.cells #[vI vU (wd X 0),vI vU (wd X 1),vI vU (wd X 2),vI vU (wd X 3)] 26)).alloc (.cells #[vI vU 0,vI vU 0,vI vU 0,vI vU 0] 26)).rowIs (w.heap.size + 1) 26 4 (fun _ => .int .u64 0):=zag (n:=4) (by simp) rfl (arr4 fun _ => .int .u64 0)
 have hbel : Below w.heap.size w ((w.alloc (.cells #[vI vU (wd X 0),vI vU (wd X 1),vI vU (wd X 2),vI vU (wd X 3)] 26)).alloc (.cells #[vI vU 0,vI vU 0,vI vU 0,vI vU 0] 26)):=((Below.refl _ _).alloc (by simp) _).alloc (by simp) _
 have hFr : Fb ((w.alloc (.cells #[vI vU (wd X 0),vI vU (wd X 1),vI vU (wd X 2),vI vU (wd X 3)] 26)).alloc (.cells #[vI vU 0,vI vU 0,vI vU 0,vI vU 0] 26)) b M N Q:=((hF).alloc _).alloc _
 have hbs:=hF.lt
 clear hF
 go_enter Tryz.func143,Tryz.ntmps143
 go_wp2_with fail
 generalize ((w.alloc (.cells #[vI vU (wd X 0),vI vU (wd X 1),vI vU (wd X 2),vI vU (wd X 3)] 26)).alloc (.cells #[vI vU 0,vI vU 0,vI vU 0,vI vU 0] 26)) = w0 at *
 obtain ⟨a0,a1,a2,a3⟩:=zac hA
 obtain ⟨m0,m1,m2,m3⟩:=hFr.mod
 go_region_with (go_at_call 94; refine (KC.out _).mono ?_; rintro e w1 ⟨rfl,hb1⟩; replace hA:=zab (by exact hA) hb1 (by exact hA.lt); replace hR:=zab (by exact hR) hb1 (by exact hR.lt); replace hFr:=Fb.below (by exact hFr) hb1 (by exact hFr.lt); replace hbel:=Below.trans (by first | exact hbel | exact hbel.drew) (hb1.mono (by exact hbel.size)))
 all_goals
  clear a0 a1 a2 a3 m0 m1 m2 m3 hb1
  obtain ⟨a0,a1,a2,a3⟩:=zac hA
  go_wp2_with fail
  refine (K1.out _).mono ?_
  rintro e w2 ⟨rfl,hb2⟩
  replace hR:=zab (by exact hR) hb2 (by exact hR.lt)
  replace hFr:=Fb.below (by exact hFr) hb2 (by exact hFr.lt)
  replace hbel:=Below.trans (by first | exact hbel | exact hbel.drew) (hb2.mono (by exact hbel.size))
  clear a0 a1 a2 a3 hA hb2
  go_wp2_with fail
  refine (K2.out _ hFr).mono ?_
  rintro e w3 ⟨rfl,hb3⟩
  replace hR:=zab (by exact hR) hb3 (by exact hR.lt)
  replace hFr:=Fb.below (by exact hFr) hb3 (by exact hFr.lt)
  replace hbel:=Below.trans (by first | exact hbel | exact hbel.drew) (hb3.mono (by exact hbel.size))
  clear hb3 hFr
  obtain ⟨f0,f1,f2,f3⟩:=zah hR
  obtain ⟨d0,d1,d2,d3⟩:=zac hR
  go_wp2
  refine bodyPost_ret (results_cell_row rfl _ _ (w.heap.size + 1) 26 #[vI vU (wd P 0),vI vU (wd P 1),vI vU (wd P 2),vI vU (wd P 3)] (0,0) _ rfl (blk4 (put4 hR fun j => .int .u64 (wd (P) j))) Tryz.underlying26 rfl (by kernel_rfl)) rfl ⟨rfl,zaj hbel (by omega) _ _ _ _⟩
theorem fcut_calls (b X M : Nat) (N : Int) (Q P : Nat) (hX : X < top) (hK : Fok M N Q) (hP : X % M = P) (w : World) (hF : Fb w b M N Q) :
  Calls Tryz.prog 143 #[.pointer (some ⟨b,0,none⟩),.agg #[vI vU (wd X 0),vI vU (wd X 1),vI vU (wd X 2),vI vU (wd X 3)]] w fun e w' => e = .returned (.agg #[vI vU (wd P 0),vI vU (wd P 1),vI vU (wd P 2),vI vU (wd P 3)]) ∧ Below w.heap.size w w':=by
 by_cases h : X < M
 ·
  exact fcut_less b X M N Q P hX hK hP h w hF
 ·
  exact fcut_more b X M N Q P hX hK hP h w hF
theorem zia (b X Y M : Nat) (N : Int) (Q Z : Nat) (hX : X < top) (hY : Y < top) (hK : Fok M N Q) (hZ : (X % M + Y % M) % M = Z) (w : World) (hF : Fb w b M N Q) :
  Calls Tryz.prog 104 #[.pointer (some ⟨b,0,none⟩),.agg #[vI vU (wd X 0),vI vU (wd X 1),vI vU (wd X 2),vI vU (wd X 3)],.agg #[vI vU (wd Y 0),vI vU (wd Y 1),vI vU (wd Y 2),vI vU (wd Y 3)]] w fun e w' => e = .returned (.agg #[vI vU (wd Z 0),vI vU (wd Z 1),vI vU (wd Z 2),vI vU (wd Z 3)]) ∧ Below w.heap.size w w':=by
 have hM0 : 0 < M:=by have:=hK.m2; omega
 have hX2:=Nat.mod_lt X hM0
 have hY2:=Nat.mod_lt Y hM0
 have K3:=veil (fun W (h : Fb W b M N Q) => fadd_calls b (X % M) (Y % M) M N Q Z hX2 hY2 hK.mt hZ W h)
 have HK:=veil hK
 clear hK hZ hM0 hX2 hY2
 have hA : (((w.alloc (.cells #[vI vU (wd X 0),vI vU (wd X 1),vI vU (wd X 2),vI vU (wd X 3)] 26)).alloc (.cells #[vI vU (wd Y 0),vI vU (wd Y 1),vI vU (wd Y 2),vI vU (wd Y 3)] 26)).alloc (.cells #[vI vU 0,vI vU 0,vI vU 0,vI vU 0] 26)).rowIs w.heap.size 26 4 (fun j => .int .u64 (wd X j)):=((zag (n:=4) (by simp) rfl (arr4 fun j => .int .u64 (wd X j))).alloc _).alloc _
 have hB : (((w.alloc (.cells #[vI vU (wd X 0),vI vU (wd X 1),vI vU (wd X 2),vI vU (wd X 3)] 26)).alloc (.cells #[vI vU (wd Y 0),vI vU (wd Y 1),vI vU (wd Y 2),vI vU (wd Y 3)] 26)).alloc (.cells #[vI vU 0,vI vU 0,vI vU 0,vI vU 0] 26)).rowIs (w.heap.size + 1) 26 4 (fun j => .int .u64 (wd Y j)):=(zag (n:=4) (by simp) rfl (arr4 fun j => .int .u64 (wd Y j))).alloc _
 have hR : (((w.alloc (.cells #[vI vU (wd X 0),vI vU (wd X 1),vI vU (wd X 2),vI vU (wd X 3)] 26)).alloc (.cells #[vI vU (wd Y 0),vI vU (wd Y 1),vI vU (wd Y 2),vI vU (wd Y 3)] 26)).alloc (.cells #[vI vU 0,vI vU 0,vI vU 0,vI vU 0] 26)).rowIs (w.heap.size + 1 + 1) 26 4 (fun _ => .int .u64 0):=zag (n:=4) (by simp) rfl (arr4 fun _ => .int .u64 0)
 have hbel : Below w.heap.size w (((w.alloc (.cells #[vI vU (wd X 0),vI vU (wd X 1),vI vU (wd X 2),vI vU (wd X 3)] 26)).alloc (.cells #[vI vU (wd Y 0),vI vU (wd Y 1),vI vU (wd Y 2),vI vU (wd Y 3)] 26)).alloc (.cells #[vI vU 0,vI vU 0,vI vU 0,vI vU 0] 26)):=(((Below.refl _ _).alloc (by simp) _).alloc (by simp) _).alloc (by simp; omega) _
 have hFr : Fb (((w.alloc (.cells #[vI vU (wd X 0),vI vU (wd X 1),vI vU (wd X 2),vI vU (wd X 3)] 26)).alloc (.cells #[vI vU (wd Y 0),vI vU (wd Y 1),vI vU (wd Y 2),vI vU (wd Y 3)] 26)).alloc (.cells #[vI vU 0,vI vU 0,vI vU 0,vI vU 0] 26)) b M N Q:=(((hF).alloc _).alloc _).alloc _
 have hbs:=hF.lt
 clear hF
 go_enter Tryz.func104,Tryz.ntmps104
 go_wp2_with fail
 generalize (((w.alloc (.cells #[vI vU (wd X 0),vI vU (wd X 1),vI vU (wd X 2),vI vU (wd X 3)] 26)).alloc (.cells #[vI vU (wd Y 0),vI vU (wd Y 1),vI vU (wd Y 2),vI vU (wd Y 3)] 26)).alloc (.cells #[vI vU 0,vI vU 0,vI vU 0,vI vU 0] 26)) = w0 at *
 obtain ⟨a0,a1,a2,a3⟩:=zac hA
 obtain ⟨b0,b1,b2,b3⟩:=zac hB
 obtain ⟨f0,f1,f2,f3⟩:=zah hR
 obtain ⟨d0,d1,d2,d3⟩:=zac hR
 go_region_with (first
  | (go_at_call 143; refine (fcut_calls b _ M N Q _ (by assumption) HK.out rfl _ (by exact hFr)).mono ?_; rintro e w1 ⟨rfl,hb1⟩; replace hB:=zab (by exact hB) hb1 (by exact hB.lt); replace hA:=zab (by exact hA) hb1 (by exact hA.lt); replace hR:=zab (by exact hR) hb1 (by exact hR.lt); replace hFr:=Fb.below (by exact hFr) hb1 (by exact hFr.lt); replace hbel:=Below.trans (by first | exact hbel | exact hbel.drew) (hb1.mono (by exact hbel.size)); obtain ⟨b0,b1,b2,b3⟩:=zac hB; obtain ⟨a0,a1,a2,a3⟩:=zac hA)
  | (go_at_call 142; refine (K3.out _ (by exact hFr)).mono ?_; rintro e w3 ⟨rfl,hb3⟩; replace hR:=zab (by exact hR) hb3 (by exact hR.lt); replace hFr:=Fb.below (by exact hFr) hb3 (by exact hFr.lt); replace hbel:=Below.trans (by first | exact hbel | exact hbel.drew) (hb3.mono (by exact hbel.size)); obtain ⟨f0,f1,f2,f3⟩:=zah hR; obtain ⟨d0,d1,d2,d3⟩:=zac hR))
 all_goals
  clear a0 a1 a2 a3 b0 b1 b2 b3 f0 f1 f2 f3 d0 d1 d2 d3
  go_wp2
  refine bodyPost_ret (results_cell_row rfl _ _ (w.heap.size + 1 + 1) 26 #[vI vU (wd Z 0),vI vU (wd Z 1),vI vU (wd Z 2),vI vU (wd Z 3)] (0,0) _ rfl (blk4 (put4 hR fun j => .int .u64 (wd (Z) j))) Tryz.underlying26 rfl (by kernel_rfl)) rfl ⟨rfl,zaj hbel (by omega) _ _ _ _⟩
theorem pN_is (w : World) : Calls Tryz.prog 95 #[] w fun e w' => e = .returned (nv Pt.nn) ∧ Ext w w':=by
 obtain ⟨l0,l1,l2,l3⟩:=nn_words
 unfold nv nc
 rw [l0,l1,l2,l3]
 clear l0 l1 l2 l3
 go_enter Tryz.func95,Tryz.ntmps95
 go_wp2
 exact bodyPost_ret (results_cell_row rfl _ _ w.heap.size 26 #[vI vU 17562291160714782033,vI vU 13611842547513532036,vI vU 18446744073709551615,vI vU 18446744069414584320] (0,0) _ rfl (heap_alloc_last w _) Tryz.underlying26 rfl (by kernel_rfl)) rfl ⟨rfl,(Below.refl _ _).alloc (Nat.le_refl _) _⟩
theorem can_zero  (w : World) :
  Calls Tryz.prog 111 #[nv 0] w fun e w' => e = .returned (.bool false) ∧ Ext w w':=by
 unfold nv nc
 go_enter Tryz.func111,Tryz.ntmps111
 go_upto_region 1 with (fail)
 refine zdj fun w1 hx b0 => ?_
 have b0 : w1.heap[w.heap.size]? = some (.cells (nc 0) 26 (0,0)):=b0
 refine' zdb (m:=10) (A:=_) 10 (by kernel_rfl) (by kernel_rfl) ?h1 ?h2
 case h1 =>
  refine zaa (nv 0) rfl (zad rfl rfl b0 rfl uN rfl (iN _)) ?_
  refine zaa (nv 0) rfl (zba rfl rfl (bldN0 ·)) ?_;simp only [aP,lA,lZ,lS]
  refine zaa (.bool false) rfl (zew rfl rfl rfl (gN _ _ _ _ _) neN) ?_
  refine zaa (.bool false) rfl (zap (.inl rfl) rfl) ?_;simp only [aP,lA,lZ,lS]
  refine zcb rfl ?_
  refine zcb rfl ?_;simp only [aP,lA,lZ,lS]
  refine zcb rfl ?_
  refine zcb rfl ?_;simp only [aP,lA,lZ,lS]
  refine zaa (.bool false) rfl (zbu rfl rfl rfl) ?_
  refine zaa (.bool false) rfl (zap (.inr rfl) rfl) ?_;simp only [aP,lA,lZ,lS]
  exact zan
 refine zcj rfl (by kernel_rfl) ?_
 intro w2 hE
 refine NoPanic.normal ?_
 replace hx:=hx.trans hE
 clear hE
 go_wp2
 go_ret
 exact ⟨rfl,hx⟩
theorem can_in (X : Nat) (hX : X < top) (h0 : X ≠ 0) (hl : X < Pt.nn) (w : World) :
  Calls Tryz.prog 111 #[nv X] w fun e w' => e = .returned (.bool true) ∧ Ext w w':=by
 have kX:=veil hX
 have k0:=veil h0
 have kl:=veil hl
 clear hX h0 hl
 unfold nv nc
 go_enter Tryz.func111,Tryz.ntmps111
 go_upto_region 1 with (fail)
 refine zdj fun w1 hx b0 => ?_
 have b0 : w1.heap[w.heap.size]? = some (.cells (nc X) 26 (0,0)):=b0
 refine' zdb (m:=10) (A:=_) 10 (by kernel_rfl) (by kernel_rfl) ?h1 ?h2
 case h1 =>
  refine zaa (nv X) rfl (zad rfl rfl b0 rfl uN rfl (iN _)) ?_
  refine zaa (nv 0) rfl (zba rfl rfl (bldN0 ·)) ?_;simp only [aP,lA,lZ,lS]
  refine zaa (.bool true) rfl (zew rfl rfl rfl (gN _ _ _ _ _) (neN0 kX.out k0.out ·)) ?_
  refine zaa (.bool true) rfl (zap (.inl rfl) rfl) ?_;simp only [aP,lA,lZ,lS]
  refine zbe (nv X) rfl (zad rfl rfl b0 rfl uN rfl (iN _)) ?_
  refine zbe (nv Pt.nn) rfl (zam (args:=[]) rfl rfl (fun W => zae Tryz.func95 rfl rfl _ W) (fun W hW => pN_is W)) ?_;simp only [aP,lA,lZ,lS]
  refine zbe (.int .i64 (cmpN X Pt.nn)) rfl (zam (args:=[nv X,nv Pt.nn]) rfl rfl (fun W => zae Tryz.func94 rfl rfl _ W) (fun W hW => zgx X Pt.nn kX.out zcf W)) ?_
  refine zbe (.bool true) rfl (zgt rfl rfl (cmpL kl.out)) ?_;simp only [aP,lA,lZ,lS]
  refine zaa (.bool true) rfl (zbu rfl rfl rfl) ?_
  refine zaa (.bool true) rfl (zap (.inr rfl) rfl) ?_;simp only [aP,lA,lZ,lS]
  exact zan
 refine zcj rfl (by kernel_rfl) ?_
 intro w2 hE
 refine NoPanic.normal ?_
 replace hx:=hx.trans hE
 clear hE
 go_wp2
 go_ret
 exact ⟨rfl,hx⟩
theorem can_out (X : Nat) (hX : X < top) (h0 : X ≠ 0) (hl : ¬ X < Pt.nn) (w : World) :
  Calls Tryz.prog 111 #[nv X] w fun e w' => e = .returned (.bool false) ∧ Ext w w':=by
 have kX:=veil hX
 have k0:=veil h0
 have kl:=veil hl
 clear hX h0 hl
 unfold nv nc
 go_enter Tryz.func111,Tryz.ntmps111
 go_upto_region 1 with (fail)
 refine zdj fun w1 hx b0 => ?_
 have b0 : w1.heap[w.heap.size]? = some (.cells (nc X) 26 (0,0)):=b0
 refine' zdb (m:=10) (A:=_) 10 (by kernel_rfl) (by kernel_rfl) ?h1 ?h2
 case h1 =>
  refine zaa (nv X) rfl (zad rfl rfl b0 rfl uN rfl (iN _)) ?_
  refine zaa (nv 0) rfl (zba rfl rfl (bldN0 ·)) ?_;simp only [aP,lA,lZ,lS]
  refine zaa (.bool true) rfl (zew rfl rfl rfl (gN _ _ _ _ _) (neN0 kX.out k0.out ·)) ?_
  refine zaa (.bool true) rfl (zap (.inl rfl) rfl) ?_;simp only [aP,lA,lZ,lS]
  refine zbe (nv X) rfl (zad rfl rfl b0 rfl uN rfl (iN _)) ?_
  refine zbe (nv Pt.nn) rfl (zam (args:=[]) rfl rfl (fun W => zae Tryz.func95 rfl rfl _ W) (fun W hW => pN_is W)) ?_;simp only [aP,lA,lZ,lS]
  refine zbe (.int .i64 (cmpN X Pt.nn)) rfl (zam (args:=[nv X,nv Pt.nn]) rfl rfl (fun W => zae Tryz.func94 rfl rfl _ W) (fun W hW => zgx X Pt.nn kX.out zcf W)) ?_
  refine zbe (.bool false) rfl (zgt rfl rfl (cmpG kl.out)) ?_;simp only [aP,lA,lZ,lS]
  refine zaa (.bool false) rfl (zbu rfl rfl rfl) ?_
  refine zaa (.bool false) rfl (zap (.inr rfl) rfl) ?_;simp only [aP,lA,lZ,lS]
  exact zan
 refine zcj rfl (by kernel_rfl) ?_
 intro w2 hE
 refine NoPanic.normal ?_
 replace hx:=hx.trans hE
 clear hE
 go_wp2
 go_ret
 exact ⟨rfl,hx⟩
theorem can_calls (X : Nat) (hX : X < top) (w : World) : Calls Tryz.prog 111 #[nv X] w fun e w' => e = .returned (.bool (mayB X)) ∧ Ext w w':=by
 unfold mayB
 by_cases h0 : X = 0
 ·
  subst h0
  exact can_zero w
 ·
  by_cases hl : X < Pt.nn
  ·
   rw [decide_eq_true h0,decide_eq_true hl]
   exact can_in X hX h0 hl w
  ·
   rw [decide_eq_true h0,decide_eq_false hl]
   exact can_out X hX h0 hl w
theorem nn_odd : Pt.nn % 2 = 1 ∧ 2 < Pt.nn:=by decide +kernel
theorem nc_zero : #[Value.int .u64 0,vI vU 0,vI vU 0,vI vU 0] = nc 0:=by
 unfold nc
 rw [zfa,zfa,zfa,zfa]
theorem reduced_calls (y : Nat → Nat) (hy : ∀ j,y j < 256) (w : World) :
  Calls Tryz.prog 144 #[.agg (arrOf 32 fun i => .int .u8 (y i : Nat))] w fun e w' => e = .returned (nv (num32 y % Pt.nn)) ∧ Ext w w':=by
 obtain ⟨F,hF⟩ : ∃ F,F = arrOf 32 fun i => Value.int .u8 (y i : Nat):=⟨_,rfl⟩
 obtain ⟨X,hX⟩ : ∃ X,X = num32 y:=⟨_,rfl⟩
 obtain ⟨Z,hZ⟩ : ∃ Z,Z = X % Pt.nn:=⟨_,rfl⟩
 have hXt : X < top:=by rw [hX]; exact zhu hy
 rw [← hF,← hX,← hZ]
 have HF:=veil (And.intro hF (And.intro hX (And.intro hZ (And.intro hXt hy))))
 clear hF hX hZ hXt hy
 go_enter Tryz.func144,Tryz.ntmps144
 go_upto_region 1 with (fail)
 have hR : (w.alloc (.cells F 43)).rowIs w.heap.size 43 32 (fun i => .int .u8 (y i : Nat)):=by rw [HF.out.1]; exact zbj w 32 43 _ rfl
 have hz1 : (w.alloc (.cells F 43)).heap.size = w.heap.size + 1:=by simp
 have hE1 : Ext w (w.alloc (.cells F 43)):=Ext.alloc _ _
 generalize w.alloc (.cells F 43) = w1 at *
 have hR2:=hR.alloc (.cells #[vI vU 0,vI vU 0,vI vU 0,vI vU 0] 26)
 have hn2 : (w1.alloc (.cells #[vI vU 0,vI vU 0,vI vU 0,vI vU 0] 26)).heap[w.heap.size + 1]? = some (.cells #[vI vU 0,vI vU 0,vI vU 0,vI vU 0] 26 (0,0)):=by rw [← hz1]; exact heap_alloc_last w1 _
 have hE2:=hE1.trans (Ext.alloc w1 (.cells #[vI vU 0,vI vU 0,vI vU 0,vI vU 0] 26))
 generalize w1.alloc (.cells #[vI vU 0,vI vU 0,vI vU 0,vI vU 0] 26) = w2 at *
 have HOf:=veil (show Calls Tryz.prog 83 #[.slice (some ⟨w.heap.size,0,none⟩) 32 32] w2 fun e w' => e = .returned (.tuple #[nv X,.nilIface]) ∧ Ext w2 w' from by
  rw [HF.out.2.1]; exact of_some w.heap.size 0 32 32 y HF.out.2.2.2.2 (by decide) w2 hR2.lt (fun j hj => by rw [Nat.zero_add]; exact hR2.cell hj))
 have H2:=veil (And.intro hn2 hE2)
 clear hR hR2 hn2 hE2 hE1 hz1
 go_upto_region 2 with (first
  | (go_at_call 83; refine HOf.out.mono ?_; rintro e w3 ⟨rfl,hb3⟩)
  | ((with_reducible refine zbb ?_); refine wpList_store_row rfl 26 _ _ rfl w3.heap.size (nc X) rfl rfl 26 _ (heap_alloc_last w3 _) (iN X) (by rfl) (zbd X) ?_; rw [World.setRow_alloc_new]))
 have hx4 : (w3.alloc (.cells (nc X) 26)).heap[w3.heap.size]? = some (.cells (nc X) 26 (0,0)):=heap_alloc_last w3 _
 have hE4:=(hb3.trans (Ext.alloc w3 (.cells (nc X) 26)))
 have H4:=veil (And.intro (hE4.block H2.out.1) (And.intro hx4 (H2.out.2.trans hE4)))
 generalize w3.alloc (.cells (nc X) 26) = w4 at *
 generalize w3.heap.size = gx at *
 clear hx4 hE4 hb3 HOf H2
 have HN:=veil (pN_is w4)
 go_upto_region 3 with (first
  | (go_at_call 95; refine HN.out.mono ?_; rintro e w5 ⟨rfl,hb5⟩)
  | (go_at_call 102; refine (new_good Pt.nn nn_odd.1 nn_odd.2 zcf w5).mono ?_; rintro e w6 ⟨⟨b,N,Q,hok,hfb,hge,rfl⟩,hb6⟩))
 have hb6 : Ext w5 w6:=hb6
 have HA:=veil (show Calls Tryz.prog 104 #[.pointer (some ⟨b,0,none⟩),nv X,.agg #[vI vU 0,vI vU 0,vI vU 0,vI vU 0]] w6 fun e w' => e = .returned (nv Z) ∧ Ext w6 w' from by
  rw [nc_zero]
  exact zia b X 0 Pt.nn N Q Z HF.out.2.2.2.1 zce hok (by rw [HF.out.2.2.1,Nat.zero_mod,Nat.add_zero,Nat.mod_mod]) w6 hfb)
 have H6:=veil (And.intro ((hb5.trans hb6).block H4.out.1) (And.intro ((hb5.trans hb6).block H4.out.2.1) (H4.out.2.2.trans (hb5.trans hb6))))
 clear hok hfb hge hb5 hb6 H4 HN
 go_wp2_with (first
  | ((with_reducible refine zar 18 ?_); refine wpList_load_row rfl 26 _ rfl gx rfl 26 (nc X) (0,0) _ H6.out.2.1 Tryz.underlying26 rfl (iN X) ?_)
  | (go_at_call 104; refine HA.out.mono ?_; rintro e w7 ⟨rfl,hb7⟩)
  | ((with_reducible refine zbb ?_); refine wpList_store_row rfl 26 _ _ rfl (w.heap.size + 1) (nc Z) rfl rfl 26 _ (hb7.block H6.out.1) (iN Z) (by rfl) (zbd Z) ?_))
 exact bodyPost_ret (results_cell_row rfl _ _ (w.heap.size + 1) 26 (nc Z) (0,0) _ rfl (setRow_heap w7 (w.heap.size + 1) _ (nc Z) 26 (0,0) (hb7.block H6.out.1)) Tryz.underlying26 rfl (iN Z)) rfl ⟨rfl,zca (H6.out.2.2.trans hb7) (by omega) _⟩
/-! ### digests -/
def dgL (bs : List Nat) (j : Nat) : Nat:=dByte (shaSt (fun i => bs.getD i 0) bs.length) j
theorem dgL_lt (bs : List Nat) (j : Nat) : dgL bs j < 256:=Nat.mod_lt _ (by decide)
theorem src_bs {w : World} {A : Option Addr} {bs : List Nat} (h : Bs w A bs) : Src w A bs.length (fun j => bs.getD j 0) w.heap.size :=
 h.2.imp id fun ⟨b,o,e,hb,hc⟩ => ⟨b,o,e,hb,by omega,hc⟩
/-! ### numbers -/
theorem ptB_sig (r s j : Nat) (hj : j < 64) : ptB r s j = .int .u8 ((sigB r s).getD j 0 : Nat):=by
 have hd : ∀ X i,i < 32 → bsv X i = .int .u8 ((beB 32 X).getD i 0 : Nat):=fun X i hi => by
  rw [beB_get 32 X hi]
  rfl
 unfold ptB sigB
 simp only [List.getD_eq_getElem?_getD] at hd ⊢
 by_cases h : j < 32
 ·
  rw [if_pos h,List.getElem?_append_left (by rw [zhk]; exact h)]
  exact hd r j h
 ·
  rw [if_neg h,List.getElem?_append_right (by rw [zhk]; omega),zhk]
  exact hd s (j - 32) (by omega)
theorem own_sig {w w' : World} {v : Value} {r s : Nat} (o : Own w' w.heap.size 5 v 64 (ptB r s)) : ∃ A c,v = .slice A 64 c ∧ 64 ≤ c ∧ Bs w' A (sigB r s) ∧ Fresh w A (sigB r s):=by
 obtain ⟨g,c,rfl,hc,hg,hp⟩:=o.pre (by decide)
 refine ⟨_,c,rfl,hc,⟨sigB_byt r s,.inr ⟨g,0,rfl,hp.lt,fun j hj => ?_⟩⟩,.inr fun b o e => ?_⟩
 ·
  rw [zdt] at hj
  rw [Nat.zero_add,hp.cell hj,ptB_sig r s j hj]
 ·
  injection e with e
  injection e with e
  omega
/-! ### signatures -/
def endN (D M many : Nat) : Nat → Nat
 | 0 => 100
 | k + 1 => if (outN D M (100 - (k + 1))).length < many then endN D M many k else 100 - (k + 1)
theorem endN_is (D M many : Nat) : ∀ k,k ≤ 100 → (∀ j,j < 100 - k → (outN D M j).length < many) → Ends D M many (endN D M many k)
 | 0,_,h => ⟨Nat.le_refl _,h,.inl rfl⟩
 | k + 1,hk,h => by
  unfold endN
  split
  ·
   rename_i h1
   refine endN_is D M many k (by omega) fun j hj => ?_
   by_cases e : j < 100 - (k + 1)
   ·
    exact h j e
   ·
    rw [show j = 100 - (k + 1) by omega]; exact h1
  ·
   rename_i h1
   exact ⟨by omega,h,.inr h1⟩
theorem ends_fn (D M many : Nat) : Ends D M many (endN D M many 100):=endN_is D M many 100 (Nat.le_refl _) fun j hj => by omega
def sgL (D : Nat) (y : Nat → Nat) : Option (Nat × Nat):=sigOf D (num32 y) (outN D (num32 y % Pt.nn) (endN D (num32 y % Pt.nn) 16 100))
theorem sgL_of {D : Nat} {y : Nat → Nat} {s : Nat} {o : Option (Nat × Nat)} (h : Ends D (num32 y % Pt.nn) 16 s) (ho : sigOf D (num32 y) (outN D (num32 y % Pt.nn) s) = o) : o = sgL D y:=by
 obtain rfl:=h.same (ends_fn D (num32 y % Pt.nn) 16)
 exact ho.symm
theorem sgw_is (o : Option (Nat × Nat)) : sgw o = sgv o:=by cases o <;> rfl
def lowL : Low where
 dg:=dgL
 dgb:=dgL_lt
 md:=mayB
 sg:=sgL
 mdt:=fun _ h => Nat.lt_trans (zhw h) zcf
 sgt:=fun _ _ _ _ h => sigOf_top h
structure CodeL : Prop where
 sum : ∀ A m c bs w,KT w → m = bs.length → m ≤ c → m ≤ 100000 → Bs w A bs → Calls Tryz.prog 26 #[.slice A m c] w fun e w' => e = .returned (dgv (dgL bs)) ∧ Ext w w'
 sign_bad : ∀ D y w,D < top → mayB D = false → Calls Tryz.prog 25 #[nv D,dgv y] w fun e w' => e = .returned (.tuple #[gv 0 0,.iface 35 (.int .i64 1)]) ∧ Ext w w'
 sign_ok : ∀ D y w,KT w → mayB D = true → (∀ j,y j < 256) → Calls Tryz.prog 25 #[nv D,dgv y] w fun e w' => e = .returned (.tuple #[sgw (sgL D y),if (sgL D y).isSome then .nilIface else .iface 35 (.int .i64 4)]) ∧ Ext w w'
 bytes : ∀ r s w,Calls Tryz.prog 27 #[gv r s] w fun e w' => ∃ A c,e = .returned (.slice A 64 c) ∧ 64 ≤ c ∧ Bs w' A (sigB r s) ∧ Fresh w A (sigB r s) ∧ Ext w w'
theorem rsig_bytes (X Y : Nat) (w : World) :
  Calls Tryz.prog 43 #[gv X Y] w fun e w' => ∃ g cap,e = .returned (.slice (some ⟨g,0,none⟩) 64 cap) ∧ w.heap.size ≤ g ∧ Own w' w.heap.size 5 (.slice (some ⟨g,0,none⟩) 64 cap) 64 (ptB X Y) ∧ Below w.heap.size w w':=by
 obtain ⟨i8,hi8,hz0,hz1,hz2⟩:=info_parts infoByte
 have HI:=veil (And.intro hi8 (And.intro hz0 (And.intro hz1 hz2)))
 clear hi8 hz0 hz1 hz2
 unfold gv gc
 have hA : (w.alloc (.cells #[vI vU (wd X 0),vI vU (wd X 1),vI vU (wd X 2),vI vU (wd X 3),vI vU (wd Y 0),vI vU (wd Y 1),vI vU (wd Y 2),vI vU (wd Y 3)] 39)).heap[w.heap.size]? = some (.cells #[vI vU (wd X 0),vI vU (wd X 1),vI vU (wd X 2),vI vU (wd X 3),vI vU (wd Y 0),vI vU (wd Y 1),vI vU (wd Y 2),vI vU (wd Y 3)] 39 (0,0)):=zaz _ _
 have hB : Below w.heap.size w (w.alloc (.cells #[vI vU (wd X 0),vI vU (wd X 1),vI vU (wd X 2),vI vU (wd X 3),vI vU (wd Y 0),vI vU (wd Y 1),vI vU (wd Y 2),vI vU (wd Y 3)] 39)):=(Below.refl _ _).alloc (Nat.le_refl _) _
 go_enter Tryz.func43,Tryz.ntmps43
 go_upto_region 1 with (fail)
 generalize w.alloc (.cells #[vI vU (wd X 0),vI vU (wd X 1),vI vU (wd X 2),vI vU (wd X 3),vI vU (wd Y 0),vI vU (wd Y 1),vI vU (wd Y 2),vI vU (wd Y 3)] 39) = wz at *
 have x0 : wz.cell? ⟨w.heap.size,0,none⟩ = some (vI vU (wd X 0)):=(cell_of_row wz w.heap.size 0 _ _ _ hA).trans rfl
 have x1 : wz.cell? ⟨w.heap.size,1,none⟩ = some (vI vU (wd X 1)):=(cell_of_row wz w.heap.size 1 _ _ _ hA).trans rfl
 have x2 : wz.cell? ⟨w.heap.size,2,none⟩ = some (vI vU (wd X 2)):=(cell_of_row wz w.heap.size 2 _ _ _ hA).trans rfl
 have x3 : wz.cell? ⟨w.heap.size,3,none⟩ = some (vI vU (wd X 3)):=(cell_of_row wz w.heap.size 3 _ _ _ hA).trans rfl
 have y0 : wz.cell? ⟨w.heap.size,4,none⟩ = some (vI vU (wd Y 0)):=(cell_of_row wz w.heap.size 4 _ _ _ hA).trans rfl
 have y1 : wz.cell? ⟨w.heap.size,5,none⟩ = some (vI vU (wd Y 1)):=(cell_of_row wz w.heap.size 5 _ _ _ hA).trans rfl
 have y2 : wz.cell? ⟨w.heap.size,6,none⟩ = some (vI vU (wd Y 2)):=(cell_of_row wz w.heap.size 6 _ _ _ hA).trans rfl
 have y3 : wz.cell? ⟨w.heap.size,7,none⟩ = some (vI vU (wd Y 3)):=(cell_of_row wz w.heap.size 7 _ _ _ hA).trans rfl
 have lz:=(Array.getElem?_eq_some_iff.1 hA).1
 have H1:=veil (fun W => zhh X W)
 have H2:=veil (fun W => zhh Y W)
 clear hA
 go_region_held3 (fun w' => (∀ b o,b < wz.heap.size → w'.cell? ⟨b,o,none⟩ = wz.cell? ⟨b,o,none⟩) ∧ Below wz.heap.size wz w')
  (first
   | with_reducible assumption
   | with_reducible exact zde _
   | exact hS3
   | with_reducible exact zdc (by assumption) (by assumption)
   | fail)
  (first
   | (go_at_call 69; first
     | ((with_reducible refine (H1.out _).mono ?_); rintro e w1 ⟨g1,c1,rfl,hc1,hg1,ho1,hb1⟩)
     | ((with_reducible refine (H2.out _).mono ?_); rintro e w2 ⟨g2,c2,rfl,hc2,hg2,ho2,hb2⟩))
   | ((with_reducible refine at_slotR 9 ?_); refine zcu _ rfl _ _ 29 rfl wz.heap.size 5 i8 (.int .u8 0) 1 Tryz.underlying29 HI.out.1 HI.out.2.1 HI.out.2.2.1 HI.out.2.2.2 rfl (.slice (some ⟨g1,0,none⟩) 32 c1) 32 _ rfl (ho1.below hb2 (Nat.le_refl _)) (some ⟨g2,0,none⟩) 32 c2 rfl _ (from_own ho2) (fun _ => rfl) (by unfold maxLen; omega) (by omega) (Nat.le_trans hb1.size hb2.size) ?_; intro v3 w3 hO3 hg3 _ _; have hX:=zdc hb2 (zdc hb1 (zde wz)); have hb3 : Below wz.heap.size wz w3:=hX.2.grown hg3 hX.2.size (fun k e => (ho1.lt e).1); have hS3:=And.intro (fun b o (h : b < wz.heap.size) => hb3.cell (p:=⟨b,o,none⟩) h) hb3; obtain ⟨g3,c3,rfl,-,hg3',-⟩:=hO3.pre (by omega)))
 rename (_ ∧ Below wz.heap.size wz _) => hH
 have hfin : Own w3 w.heap.size 5 (.slice (some ⟨g3,0,none⟩) 64 c3) 64 (ptB X Y):=hO3.base_le hB.size
 clear x0 x1 x2 x3 y0 y1 y2 y3 hO3
 go_wp2
 go_ret
 exact ⟨g3,c3,rfl,Nat.le_trans hB.size hg3',hfin,hB.trans (hH.2.mono hB.size)⟩
theorem vs_pair {w : World} {g t : Nat} {A0 A1 : Option Addr} {c0 c1 : Nat} {x0 x1 : List Nat} {fr : Nat × Nat} (l0 : x0.length = 55) (l1 : x1.length = 64)
  (hg : w.heap[g]? = some (.cells #[.slice A0 55 c0,.slice A1 64 c1] t fr)) (h0 : 55 ≤ c0 ∧ Bs w A0 x0) (h1 : 64 ≤ c1 ∧ Bs w A1 x1) : Vs w (.slice (some ⟨g,0,none⟩) 2 2) [x0,x1] :=
 vs_row (l:=[x0,x1]) hg (Nat.le_refl _) fun i hi => by
  match i,hi with
  | 0,_ => exact ⟨A0,c0,by show some (Value.slice A0 55 c0) = some (.slice A0 x0.length c0); rw [l0],by show x0.length ≤ _; rw [l0]; exact h0.1,h0.2⟩
  | 1,_ => exact ⟨A1,c1,by show some (Value.slice A1 64 c1) = some (.slice A1 x1.length c1); rw [l1],by show x1.length ≤ _; rw [l1]; exact h1.1,h1.2⟩
theorem issue_end {L : Low} {w' : World} {t : Tk} {D r s : Nat} {x ev : Value} (hm : mayT t = true) (hd : L.md D = true) (hs : L.sg D (L.dg (tkB t)) = some (r,s)) (h : PutA w' (tagFs 1 [tkB t,sigB r s]) x ev) : IssueA L w' t D x ev:=by
 have hmay : mayFs (tagFs 1 [tkB t,sigB r s]) = true:=two_may (by rw [zbv]; decide)
 rcases h with ⟨h,_⟩ | ⟨_,he,A,c,hx,hc,hB⟩
 ·
  rw [hmay] at h; cases h
 ·
  exact .inr (.inr ⟨hm,hd,r,s,hs,⟨A,c,hx,hc,hB⟩,he⟩)
theorem sign_three (C : CodeL) {D : Nat} (hD : D < top) {y : Nat → Nat} (hy : ∀ j,y j < 256) : ∃ r s ev,(∀ W,KT W → Calls Tryz.prog 25 #[.agg (nc D),dgv y] W fun e w' => e = .returned (.tuple #[.agg (gc r s),ev]) ∧ Ext W w') ∧
  ((ev = .iface 35 (.int .i64 1) ∧ mayB D = false) ∨ (ev = .iface 35 (.int .i64 4) ∧ mayB D = true ∧ sgL D y = none) ∨ (ev = .nilIface ∧ mayB D = true ∧ sgL D y = some (r,s))):=by
 cases hm : mayB D with
 | false => exact ⟨0,0,_,fun W _ => C.sign_bad D y W hD hm,.inl ⟨rfl,rfl⟩⟩
 | true =>
  cases hs : sgL D y with
  | none =>
   refine ⟨0,0,_,fun W hW => ?_,.inr (.inl ⟨rfl,rfl,rfl⟩)⟩
   have h:=C.sign_ok D y W hW hm hy
   rw [hs] at h
   exact h
  | some p =>
   obtain ⟨r,s⟩:=p
   refine ⟨r,s,_,fun W hW => ?_,.inr (.inr ⟨rfl,rfl,rfl⟩)⟩
   have h:=C.sign_ok D y W hW hm hy
   rw [hs] at h
   exact h
theorem neNil1 (w : World) : (binOp .neq 31 (.iface 35 (.int .i64 1)) .nilIface).run Tryz.prog w = .ok (.bool true) w:=by kernel_rfl
theorem neNil4 (w : World) : (binOp .neq 31 (.iface 35 (.int .i64 4)) .nilIface).run Tryz.prog w = .ok (.bool true) w:=by kernel_rfl
theorem issue9_calls (C : CodeL) (t : Tk) (D : Nat) (w : World) (hK : KT w) (hD : D < top) : Calls Tryz.prog 9 #[tkV t,nv D] w fun e w' => ∃ x ev,e = .returned (.tuple #[x,ev]) ∧ Ext w w' ∧ IssueA lowL w' t D x ev:=by
 obtain ⟨r,s,ev,hG,hw⟩:=sign_three C hD (dgL_lt (tkB t))
 have KB:=veil (fun W => body9_calls t W)
 have HK:=veil hK
 have HC:=veil C
 have HG:=veil hG
 have HW:=veil hw
 have KBy:=veil (fun W => C.bytes r s W)
 have k1:=neNil1
 have k3:=neNilN
 have k4:=neNil4
 unfold tkV at KB
 unfold tkV nv
 unfold gv at KBy
 clear hK C hG hw hD
 go_enter Tryz.func9,Tryz.ntmps9
 go_upto_region 1 with (fail)
 obtain ⟨g2,hg2⟩ : ∃ g,g = w.heap.size:=⟨_,rfl⟩
 obtain ⟨g3,hg3⟩ : ∃ g,g = w.heap.size + 1:=⟨_,rfl⟩
 have h2:=(zem w (.cells (tkC t) 23) (.cells (nc D) 26)).1
 have h3:=(zem w (.cells (tkC t) 23) (.cells (nc D) 26)).2
 have hE0:=two_ext w (.cells (tkC t) 23) (.cells (nc D) 26)
 rw [← hg3,← hg2]
 rw [← hg2] at h2
 rw [← hg3] at h3
 generalize (w.alloc (.cells (tkC t) 23)).alloc (.cells (nc D) 26) = w0 at *
 have H0:=veil (And.intro hE0 (And.intro h2 h3))
 clear hE0 h2 h3 hg2 hg3
 go_upto_region 2 with (first
  | ((with_reducible refine zar 10 ?_); refine wpList_load_row rfl 23 _ rfl g2 rfl 23 (tkC t) (0,0) _ H0.out.2.1 Tryz.underlying23 rfl (iTk t) ?_)
  | (go_at_call 8; refine (KB.out _).mono ?_; rintro e w3 ⟨x,eb,rfl,hE3,hA⟩))
 rcases hA with ⟨hm,⟨A5,c5,rfl⟩,rfl⟩ | ⟨hm,⟨A5,c5,rfl,hc5,hB5⟩,rfl⟩
 ·
  have HM:=veil hm
  clear hm
  go_wp2
  go_ret2
  exact ⟨_,_,rfl,H0.out.1.trans hE3,.inl ⟨by rw [HM.out,Bool.false_and],⟨none,0,rfl⟩,rfl⟩⟩
 ·
  have HM:=veil hm
  have HA:=veil hc5
  have H7:=veil (And.intro (H0.out.1.trans hE3) (And.intro (hE3.block H0.out.2.2) hB5))
  clear hm hE3 hB5 hc5 H0 KB
  go_upto_region 4 with (fail)
  refine ziw 8 (.row [0,1,2,3,4,5] (.two 6 (.one 7 (.one 8 (.one 9 .done))) 7 (.two 6 (.one 8 (.one 9 .done)) 8 (.one 6 (.one 9 .done))))) (by kernel_rfl) (by decide +kernel) fun Q' hQ' => ?_
  refine' zka (A:=_) _ rfl (by kernel_rfl) ?_ ?_
  rotate_left
  ·
   intro D' hD hN
   have KS:=veil (fun v : Gw D' => hD.calls (v:=dgv (dgL (tkB t))) (fun W hW => HC.out.sum A5 55 c5 (tkB t) W (zgh HK.out (H7.out.1.trans hW)) (zbv t).symm HA.out (by decide) (H7.out.2.2.ext hW)) v)
   have KG:=veil (fun v : Gw D' => hD.calls (v:=.tuple #[.agg (gc r s),ev]) (fun W hW => HG.out W (zgh HK.out (H7.out.1.trans hW))) v)
   simp only [pickI,consO,List.getElem?_cons_zero,List.getElem?_cons_succ]
   go_big_quiet_want
   refine zdv (.agg (nc D)) (fun v => zdr rfl rfl (hD.block H7.out.2.1 v) Tryz.underlying26 rfl (iN D)) ?_
   simp only [aP,lA,lZ,lS]
   go_big_quiet_on
   repeat (go_big_quiet_step (first | exact KS.out _ | exact KG.out _))
   exact zcy
  have hX0 : Ext w3 w3:=Ext.refl w3
  show One _ _ _ _ _ _ _ _ ∧ One _ _ _ _ _ _ _ _
  refine ⟨?_,?_⟩
  ·
   show One _ _ _ _ _ _ _ _
   refine zct (v:=ev) _ rfl rfl rfl (fun W _ => rfl) ?_
   intro wv1 hE2
   simp only [aP,lA,lZ,lS]
   have hX3:=hX0.trans hE2
   show One _ _ _ _ _ _ _ _
   refine zgq (C:=Z8) (t:=39) _ rfl rfl rfl (fun _ => rfl) ?_
   intro g8 wv4 hh8 hK7 hE5
   simp only [aP,lA,lZ,lS]
   have hX6:=hX3.trans hE5
   have hG9 : w3.heap.size ≤ g8:=Nat.le_trans (Below.size hX3) hh8
   show One _ _ _ _ _ _ _ _
   refine zdw (cells:=gc r s) _ rfl rfl rfl rfl (by decide) rfl rfl hK7 (iSg r s) rfl (zcp r s) ?_
   intro wv10 hB11 hK13
   have hX12 : Ext w3 wv10:=Below.trans hX6 (hB11.new hG9 (Below.size hX6))
   show One _ _ _ _ _ _ _ _
   refine zct (v:=ev) _ rfl rfl rfl (fun W _ => rfl) ?_
   intro wv14 hE15
   simp only [aP,lA,lZ,lS]
   have hX16:=hX12.trans hE15
   have hK17:=hE15.block hK13
   refine zhr hQ' fun wz hEz => ?_
   have H8:=veil (And.intro (H7.out.1.trans (hX16.trans hEz)) (And.intro (hEz.block hK17) (H7.out.2.2.ext (hX16.trans hEz))))
   clear hQ' hEz hK17 hX16 hE15 hK13 hX12 hB11 hG9 hh8 hK7 hX6 hE5 hX3 hE2 hX0 H7 HG
   go_upto_region 5 with (fail)
   rcases HW.out with ⟨rfl,hd⟩ | ⟨rfl,hd,hs⟩ | ⟨rfl,hd,hs⟩
   ·
    clear HW
    have HD:=veil hd
    clear hd
    go_wp2
    go_ret2
    exact ⟨_,_,rfl,H8.out.1,.inl ⟨by rw [show lowL.md D = mayB D from rfl,HD.out,Bool.and_false],⟨none,0,rfl⟩,rfl⟩⟩
   ·
    have HD:=veil (And.intro hd hs)
    clear hd hs HW
    go_wp2
    go_ret2
    exact ⟨_,_,rfl,H8.out.1,.inr (.inl ⟨HM.out,HD.out.1,HD.out.2,⟨none,0,rfl⟩,rfl⟩)⟩
   ·
    have HD:=veil (And.intro hd hs)
    clear hd hs HW
    go_upto_region 7 with (fail)
    go_wp2_with (first
     | ((with_reducible refine zar 28 ?_); refine wpList_load_row rfl 39 _ rfl g8 rfl 39 (gc r s) (0,0) _ H8.out.2.1 Tryz.underlying39 rfl (iSg r s) ?_)
     | (go_at_call 27; refine (KBy.out _).mono ?_; rintro e wb ⟨A4,c4,rfl,hc4,hB4,hF4,hEb⟩)
     | (go_at_call 23; refine (zhb _ [tkB t,sigB r s] (show (2 : Nat) ≤ 64 by decide) _ (vs_pair (zbv t) (zdt r s) (zaz wb _) ⟨HA.out,(H8.out.2.2.ext hEb).ext (Ext.alloc wb _)⟩ ⟨hc4,hB4.ext (Ext.alloc wb _)⟩)).mono ?_; rintro e wp ⟨x,ev,rfl,hEp,hP⟩))
    have hEnd : Ext w wp:=H8.out.1.trans (hEb.trans ((Ext.alloc wb _).trans hEp))
    have hIs:=issue_end (L:=lowL) HM.out HD.out.1 HD.out.2 hP
    clear hP hEp hEb hB4 hF4 hc4
    go_ret2
    exact ⟨_,_,rfl,hEnd,hIs⟩
  ·
   show One _ _ _ _ _ _ _ _
   refine zgq (C:=Z8) (t:=39) _ rfl rfl rfl (fun _ => rfl) ?_
   intro g8 wv18 hh22 hK21 hE19
   simp only [aP,lA,lZ,lS]
   have hX20:=hX0.trans hE19
   have hG23 : w3.heap.size ≤ g8:=Nat.le_trans (Below.size hX0) hh22
   show One _ _ _ _ _ _ _ _ ∧ One _ _ _ _ _ _ _ _
   refine ⟨?_,?_⟩
   ·
    show One _ _ _ _ _ _ _ _
    refine zct (v:=ev) _ rfl rfl rfl (fun W _ => rfl) ?_
    intro wv24 hE25
    simp only [aP,lA,lZ,lS]
    have hX26:=hX20.trans hE25
    have hK27:=hE25.block hK21
    show One _ _ _ _ _ _ _ _
    refine zdw (cells:=gc r s) _ rfl rfl rfl rfl (by decide) rfl rfl hK27 (iSg r s) rfl (zcp r s) ?_
    intro wv28 hB29 hK31
    have hX30 : Ext w3 wv28:=Below.trans hX26 (hB29.new hG23 (Below.size hX26))
    show One _ _ _ _ _ _ _ _
    refine zct (v:=ev) _ rfl rfl rfl (fun W _ => rfl) ?_
    intro wv32 hE33
    simp only [aP,lA,lZ,lS]
    have hX34:=hX30.trans hE33
    have hK35:=hE33.block hK31
    refine zhr hQ' fun wz hEz => ?_
    have H8:=veil (And.intro (H7.out.1.trans (hX34.trans hEz)) (And.intro (hEz.block hK35) (H7.out.2.2.ext (hX34.trans hEz))))
    clear hQ' hEz hK35 hX34 hE33 hK31 hX30 hB29 hK27 hX26 hE25 hG23 hh22 hK21 hX20 hE19 hX0 H7 HG
    go_upto_region 5 with (fail)
    rcases HW.out with ⟨rfl,hd⟩ | ⟨rfl,hd,hs⟩ | ⟨rfl,hd,hs⟩
    ·
     clear HW
     have HD:=veil hd
     clear hd
     go_wp2
     go_ret2
     exact ⟨_,_,rfl,H8.out.1,.inl ⟨by rw [show lowL.md D = mayB D from rfl,HD.out,Bool.and_false],⟨none,0,rfl⟩,rfl⟩⟩
    ·
     have HD:=veil (And.intro hd hs)
     clear hd hs HW
     go_wp2
     go_ret2
     exact ⟨_,_,rfl,H8.out.1,.inr (.inl ⟨HM.out,HD.out.1,HD.out.2,⟨none,0,rfl⟩,rfl⟩)⟩
    ·
     have HD:=veil (And.intro hd hs)
     clear hd hs HW
     go_upto_region 7 with (fail)
     go_wp2_with (first
      | ((with_reducible refine zar 28 ?_); refine wpList_load_row rfl 39 _ rfl g8 rfl 39 (gc r s) (0,0) _ H8.out.2.1 Tryz.underlying39 rfl (iSg r s) ?_)
      | (go_at_call 27; refine (KBy.out _).mono ?_; rintro e wb ⟨A4,c4,rfl,hc4,hB4,hF4,hEb⟩)
      | (go_at_call 23; refine (zhb _ [tkB t,sigB r s] (show (2 : Nat) ≤ 64 by decide) _ (vs_pair (zbv t) (zdt r s) (zaz wb _) ⟨HA.out,(H8.out.2.2.ext hEb).ext (Ext.alloc wb _)⟩ ⟨hc4,hB4.ext (Ext.alloc wb _)⟩)).mono ?_; rintro e wp ⟨x,ev,rfl,hEp,hP⟩))
     have hEnd : Ext w wp:=H8.out.1.trans (hEb.trans ((Ext.alloc wb _).trans hEp))
     have hIs:=issue_end (L:=lowL) HM.out HD.out.1 HD.out.2 hP
     clear hP hEp hEb hB4 hF4 hc4
     go_ret2
     exact ⟨_,_,rfl,hEnd,hIs⟩
   ·
    show One _ _ _ _ _ _ _ _
    refine zdw (cells:=gc r s) _ rfl rfl rfl rfl (by decide) rfl rfl hK21 (iSg r s) rfl (zcp r s) ?_
    intro wv36 hB37 hK39
    have hX38 : Ext w3 wv36:=Below.trans hX20 (hB37.new hG23 (Below.size hX20))
    show One _ _ _ _ _ _ _ _
    refine zct (v:=ev) _ rfl rfl rfl (fun W _ => rfl) ?_
    intro wv40 hE41
    simp only [aP,lA,lZ,lS]
    have hX42:=hX38.trans hE41
    have hK43:=hE41.block hK39
    show One _ _ _ _ _ _ _ _
    refine zct (v:=ev) _ rfl rfl rfl (fun W _ => rfl) ?_
    intro wv44 hE45
    simp only [aP,lA,lZ,lS]
    have hX46:=hX42.trans hE45
    have hK47:=hE45.block hK43
    refine zhr hQ' fun wz hEz => ?_
    have H8:=veil (And.intro (H7.out.1.trans (hX46.trans hEz)) (And.intro (hEz.block hK47) (H7.out.2.2.ext (hX46.trans hEz))))
    clear hQ' hEz hK47 hX46 hE45 hK43 hX42 hE41 hK39 hX38 hB37 hG23 hh22 hK21 hX20 hE19 hX0 H7 HG
    go_upto_region 5 with (fail)
    rcases HW.out with ⟨rfl,hd⟩ | ⟨rfl,hd,hs⟩ | ⟨rfl,hd,hs⟩
    ·
     clear HW
     have HD:=veil hd
     clear hd
     go_wp2
     go_ret2
     exact ⟨_,_,rfl,H8.out.1,.inl ⟨by rw [show lowL.md D = mayB D from rfl,HD.out,Bool.and_false],⟨none,0,rfl⟩,rfl⟩⟩
    ·
     have HD:=veil (And.intro hd hs)
     clear hd hs HW
     go_wp2
     go_ret2
     exact ⟨_,_,rfl,H8.out.1,.inr (.inl ⟨HM.out,HD.out.1,HD.out.2,⟨none,0,rfl⟩,rfl⟩)⟩
    ·
     have HD:=veil (And.intro hd hs)
     clear hd hs HW
     go_upto_region 7 with (fail)
     go_wp2_with (first
      | ((with_reducible refine zar 28 ?_); refine wpList_load_row rfl 39 _ rfl g8 rfl 39 (gc r s) (0,0) _ H8.out.2.1 Tryz.underlying39 rfl (iSg r s) ?_)
      | (go_at_call 27; refine (KBy.out _).mono ?_; rintro e wb ⟨A4,c4,rfl,hc4,hB4,hF4,hEb⟩)
      | (go_at_call 23; refine (zhb _ [tkB t,sigB r s] (show (2 : Nat) ≤ 64 by decide) _ (vs_pair (zbv t) (zdt r s) (zaz wb _) ⟨HA.out,(H8.out.2.2.ext hEb).ext (Ext.alloc wb _)⟩ ⟨hc4,hB4.ext (Ext.alloc wb _)⟩)).mono ?_; rintro e wp ⟨x,ev,rfl,hEp,hP⟩))
     have hEnd : Ext w wp:=H8.out.1.trans (hEb.trans ((Ext.alloc wb _).trans hEp))
     have hIs:=issue_end (L:=lowL) HM.out HD.out.1 HD.out.2 hP
     clear hP hEp hEb hB4 hF4 hc4
     go_ret2
     exact ⟨_,_,rfl,hEnd,hIs⟩
theorem kt_ext (w w' : World) (h : KT w) (k : Ext w w') : KT w':=zgh h k
theorem code9 (C : CodeL) : Code9 lowL KT where
 keep:=kt_ext
 may:=may9_calls
 body:=body9_calls
 issue:=fun t D w hK hD => issue9_calls C t D w hK hD
 open_nil:=open_nil_calls
theorem fsub2_calls (b X Y M : Nat) (N : Int) (Q Z : Nat) (hX : X < top) (hY : Y < top) (hK : Fok M N Q) (hZ : (X % M + M - Y % M) % M = Z) (w : World) (hF : Fb w b M N Q) :
  Calls Tryz.prog 105 #[.pointer (some ⟨b,0,none⟩),.agg #[vI vU (wd X 0),vI vU (wd X 1),vI vU (wd X 2),vI vU (wd X 3)],.agg #[vI vU (wd Y 0),vI vU (wd Y 1),vI vU (wd Y 2),vI vU (wd Y 3)]] w fun e w' => e = .returned (.agg #[vI vU (wd Z 0),vI vU (wd Z 1),vI vU (wd Z 2),vI vU (wd Z 3)]) ∧ Below w.heap.size w w':=by
 have hM0 : 0 < M:=by have:=hK.m2; omega
 have hX2:=Nat.mod_lt X hM0
 have hY2:=Nat.mod_lt Y hM0
 have K3:=veil (fun W (h : Fb W b M N Q) => zji b (X % M) (Y % M) M N Q Z hX2 hY2 hK.mt hZ W h)
 have HK:=veil hK
 clear hK hZ hM0 hX2 hY2
 have hA : (((w.alloc (.cells #[vI vU (wd X 0),vI vU (wd X 1),vI vU (wd X 2),vI vU (wd X 3)] 26)).alloc (.cells #[vI vU (wd Y 0),vI vU (wd Y 1),vI vU (wd Y 2),vI vU (wd Y 3)] 26)).alloc (.cells #[vI vU 0,vI vU 0,vI vU 0,vI vU 0] 26)).rowIs w.heap.size 26 4 (fun j => .int .u64 (wd X j)):=((zag (n:=4) (by simp) rfl (arr4 fun j => .int .u64 (wd X j))).alloc _).alloc _
 have hB : (((w.alloc (.cells #[vI vU (wd X 0),vI vU (wd X 1),vI vU (wd X 2),vI vU (wd X 3)] 26)).alloc (.cells #[vI vU (wd Y 0),vI vU (wd Y 1),vI vU (wd Y 2),vI vU (wd Y 3)] 26)).alloc (.cells #[vI vU 0,vI vU 0,vI vU 0,vI vU 0] 26)).rowIs (w.heap.size + 1) 26 4 (fun j => .int .u64 (wd Y j)):=(zag (n:=4) (by simp) rfl (arr4 fun j => .int .u64 (wd Y j))).alloc _
 have hR : (((w.alloc (.cells #[vI vU (wd X 0),vI vU (wd X 1),vI vU (wd X 2),vI vU (wd X 3)] 26)).alloc (.cells #[vI vU (wd Y 0),vI vU (wd Y 1),vI vU (wd Y 2),vI vU (wd Y 3)] 26)).alloc (.cells #[vI vU 0,vI vU 0,vI vU 0,vI vU 0] 26)).rowIs (w.heap.size + 1 + 1) 26 4 (fun _ => .int .u64 0):=zag (n:=4) (by simp) rfl (arr4 fun _ => .int .u64 0)
 have hbel : Below w.heap.size w (((w.alloc (.cells #[vI vU (wd X 0),vI vU (wd X 1),vI vU (wd X 2),vI vU (wd X 3)] 26)).alloc (.cells #[vI vU (wd Y 0),vI vU (wd Y 1),vI vU (wd Y 2),vI vU (wd Y 3)] 26)).alloc (.cells #[vI vU 0,vI vU 0,vI vU 0,vI vU 0] 26)):=(((Below.refl _ _).alloc (by simp) _).alloc (by simp) _).alloc (by simp; omega) _
 have hFr : Fb (((w.alloc (.cells #[vI vU (wd X 0),vI vU (wd X 1),vI vU (wd X 2),vI vU (wd X 3)] 26)).alloc (.cells #[vI vU (wd Y 0),vI vU (wd Y 1),vI vU (wd Y 2),vI vU (wd Y 3)] 26)).alloc (.cells #[vI vU 0,vI vU 0,vI vU 0,vI vU 0] 26)) b M N Q:=(((hF).alloc _).alloc _).alloc _
 have hbs:=hF.lt
 clear hF
 go_enter Tryz.func105,Tryz.ntmps105
 go_wp2_with fail
 generalize (((w.alloc (.cells #[vI vU (wd X 0),vI vU (wd X 1),vI vU (wd X 2),vI vU (wd X 3)] 26)).alloc (.cells #[vI vU (wd Y 0),vI vU (wd Y 1),vI vU (wd Y 2),vI vU (wd Y 3)] 26)).alloc (.cells #[vI vU 0,vI vU 0,vI vU 0,vI vU 0] 26)) = w0 at *
 obtain ⟨a0,a1,a2,a3⟩:=zac hA
 obtain ⟨b0,b1,b2,b3⟩:=zac hB
 obtain ⟨f0,f1,f2,f3⟩:=zah hR
 obtain ⟨d0,d1,d2,d3⟩:=zac hR
 go_region_with (first
  | (go_at_call 143; refine (fcut_calls b _ M N Q _ (by assumption) HK.out rfl _ (by exact hFr)).mono ?_; rintro e w1 ⟨rfl,hb1⟩; replace hB:=zab (by exact hB) hb1 (by exact hB.lt); replace hA:=zab (by exact hA) hb1 (by exact hA.lt); replace hR:=zab (by exact hR) hb1 (by exact hR.lt); replace hFr:=Fb.below (by exact hFr) hb1 (by exact hFr.lt); replace hbel:=Below.trans (by first | exact hbel | exact hbel.drew) (hb1.mono (by exact hbel.size)); obtain ⟨b0,b1,b2,b3⟩:=zac hB; obtain ⟨a0,a1,a2,a3⟩:=zac hA)
  | (go_at_call 133; refine (K3.out _ (by exact hFr)).mono ?_; rintro e w3 ⟨rfl,hb3⟩; replace hR:=zab (by exact hR) hb3 (by exact hR.lt); replace hFr:=Fb.below (by exact hFr) hb3 (by exact hFr.lt); replace hbel:=Below.trans (by first | exact hbel | exact hbel.drew) (hb3.mono (by exact hbel.size)); obtain ⟨f0,f1,f2,f3⟩:=zah hR; obtain ⟨d0,d1,d2,d3⟩:=zac hR))
 all_goals
  clear a0 a1 a2 a3 b0 b1 b2 b3 f0 f1 f2 f3 d0 d1 d2 d3
  go_wp2
  refine bodyPost_ret (results_cell_row rfl _ _ (w.heap.size + 1 + 1) 26 #[vI vU (wd Z 0),vI vU (wd Z 1),vI vU (wd Z 2),vI vU (wd Z 3)] (0,0) _ rfl (blk4 (put4 hR fun j => .int .u64 (wd (Z) j))) Tryz.underlying26 rfl (by kernel_rfl)) rfl ⟨rfl,zaj hbel (by omega) _ _ _ _⟩
theorem fmul2_calls (b X Y M : Nat) (N : Int) (Q Z : Nat) (hX : X < top) (hY : Y < top) (hK : Fok M N Q) (hZ : X * Y % M = Z) (w : World) (hF : Fb w b M N Q) :
  Calls Tryz.prog 89 #[.pointer (some ⟨b,0,none⟩),.agg #[vI vU (wd X 0),vI vU (wd X 1),vI vU (wd X 2),vI vU (wd X 3)],.agg #[vI vU (wd Y 0),vI vU (wd Y 1),vI vU (wd Y 2),vI vU (wd Y 3)]] w fun e w' => e = .returned (.agg #[vI vU (wd Z 0),vI vU (wd Z 1),vI vU (wd Z 2),vI vU (wd Z 3)]) ∧ Below w.heap.size w w':=by
 have K1:=veil (fun W => kmul X Y _ rfl hX hY W)
 have K2:=veil (fun W (h : Fb W b M N Q) => cutw_calls b (X * Y) M N Q Z (mul_lt8 hX hY) hK hZ W h)
 clear hX hY hK hZ
 generalize X * Y = P at *
 have hA : (((w.alloc (.cells #[vI vU (wd X 0),vI vU (wd X 1),vI vU (wd X 2),vI vU (wd X 3)] 26)).alloc (.cells #[vI vU (wd Y 0),vI vU (wd Y 1),vI vU (wd Y 2),vI vU (wd Y 3)] 26)).alloc (.cells #[vI vU 0,vI vU 0,vI vU 0,vI vU 0] 26)).rowIs w.heap.size 26 4 (fun j => .int .u64 (wd X j)):=((zag (n:=4) (by simp) rfl (arr4 fun j => .int .u64 (wd X j))).alloc _).alloc _
 have hB : (((w.alloc (.cells #[vI vU (wd X 0),vI vU (wd X 1),vI vU (wd X 2),vI vU (wd X 3)] 26)).alloc (.cells #[vI vU (wd Y 0),vI vU (wd Y 1),vI vU (wd Y 2),vI vU (wd Y 3)] 26)).alloc (.cells #[vI vU 0,vI vU 0,vI vU 0,vI vU 0] 26)).rowIs (w.heap.size + 1) 26 4 (fun j => .int .u64 (wd Y j)):=(zag (n:=4) (by simp) rfl (arr4 fun j => .int .u64 (wd Y j))).alloc _
 have hR : (((w.alloc (.cells #[vI vU (wd X 0),vI vU (wd X 1),vI vU (wd X 2),vI vU (wd X 3)] 26)).alloc (.cells #[vI vU (wd Y 0),vI vU (wd Y 1),vI vU (wd Y 2),vI vU (wd Y 3)] 26)).alloc (.cells #[vI vU 0,vI vU 0,vI vU 0,vI vU 0] 26)).rowIs (w.heap.size + 1 + 1) 26 4 (fun _ => .int .u64 0):=zag (n:=4) (by simp) rfl (arr4 fun _ => .int .u64 0)
 have hbel : Below w.heap.size w (((w.alloc (.cells #[vI vU (wd X 0),vI vU (wd X 1),vI vU (wd X 2),vI vU (wd X 3)] 26)).alloc (.cells #[vI vU (wd Y 0),vI vU (wd Y 1),vI vU (wd Y 2),vI vU (wd Y 3)] 26)).alloc (.cells #[vI vU 0,vI vU 0,vI vU 0,vI vU 0] 26)):=(((Below.refl _ _).alloc (by simp) _).alloc (by simp) _).alloc (by simp; omega) _
 have hFr : Fb (((w.alloc (.cells #[vI vU (wd X 0),vI vU (wd X 1),vI vU (wd X 2),vI vU (wd X 3)] 26)).alloc (.cells #[vI vU (wd Y 0),vI vU (wd Y 1),vI vU (wd Y 2),vI vU (wd Y 3)] 26)).alloc (.cells #[vI vU 0,vI vU 0,vI vU 0,vI vU 0] 26)) b M N Q:=(((hF).alloc _).alloc _).alloc _
 have hbs:=hF.lt
 clear hF
 go_enter Tryz.func89,Tryz.ntmps89
 obtain ⟨a0,a1,a2,a3⟩:=zac hA
 obtain ⟨b0,b1,b2,b3⟩:=zac hB
 go_wp2_with fail
 refine (K1.out _).mono ?_
 rintro e w1 ⟨rfl,hb1⟩
 replace hR:=zab (by exact hR) hb1 (by exact hR.lt)
 replace hFr:=Fb.below (by exact hFr) hb1 (by exact hFr.lt)
 replace hbel:=Below.trans (by first | exact hbel | exact hbel.drew) (hb1.mono (by exact hbel.size))
 clear a0 a1 a2 a3 b0 b1 b2 b3 hA hB hb1
 go_wp2_with fail
 refine (K2.out _ hFr).mono ?_
 rintro e w2 ⟨rfl,hb2⟩
 replace hR:=zab (by exact hR) hb2 (by exact hR.lt)
 replace hFr:=Fb.below (by exact hFr) hb2 (by exact hFr.lt)
 replace hbel:=Below.trans (by first | exact hbel | exact hbel.drew) (hb2.mono (by exact hbel.size))
 clear hb2 hFr
 obtain ⟨f0,f1,f2,f3⟩:=zah hR
 obtain ⟨d0,d1,d2,d3⟩:=zac hR
 go_wp2
 refine bodyPost_ret (results_cell_row rfl _ _ (w.heap.size + 1 + 1) 26 #[vI vU (wd Z 0),vI vU (wd Z 1),vI vU (wd Z 2),vI vU (wd Z 3)] (0,0) _ rfl (blk4 (put4 hR fun j => .int .u64 (wd (Z) j))) Tryz.underlying26 rfl (by kernel_rfl)) rfl ⟨rfl,zaj hbel (by omega) _ _ _ _⟩
def Fp (w : World) (b : Nat) : Prop:=∃ N Q,Fok Pt.pp N Q ∧ Fb w b Pt.pp N Q
theorem Fp.ext {w w' : World} {b : Nat} (h : Fp w b) (k : Ext w w') : Fp w' b:=by
 obtain ⟨N,Q,h1,h2⟩:=h
 exact ⟨N,Q,h1,h2.call k⟩
theorem Fp.lt {w : World} {b : Nat} (h : Fp w b) : b < w.heap.size:=by
 obtain ⟨N,Q,h1,h2⟩:=h
 exact h2.lt
abbrev Fe:=Fin Pt.pp
def sc (x y z : Nat) : Array Value:=#[vI vU (wd x 0),vI vU (wd x 1),vI vU (wd x 2),vI vU (wd x 3),vI vU (wd y 0),vI vU (wd y 1),vI vU (wd y 2),vI vU (wd y 3),vI vU (wd z 0),vI vU (wd z 1),vI vU (wd z 2),vI vU (wd z 3)]
def sv (x y z : Nat) : Value:=.agg (sc x y z)
def fv (k b : Nat) : Value:=.func (.func k) #[ptrTo b] #[]
def cc (b : Nat) : Array Value:=#[fv 104 b,fv 105 b,fv 89 b,fv 87 b]
def cv (b : Nat) : Value:=.agg (cc b)
theorem zfn (x y z : Nat) : (sc x y z).all (·.oneCell') = true:=by simp [sc,Value.oneCell']
theorem cc_one (b : Nat) : (cc b).all (·.oneCell') = true:=by simp [cc,fv,Value.oneCell']
theorem iS (x y z : Nat) : (Tryz.prog.info? 146).map (·.size) = some (sc x y z).size:=by kernel_rfl
theorem iK (b : Nat) : (Tryz.prog.info? 103).map (·.size) = some (cc b).size:=by kernel_rfl
theorem zee (x : Fe) : x.val < top:=Nat.lt_trans x.isLt zbp
theorem fe_mod (x : Fe) : x.val % Pt.pp = x.val:=Nat.mod_eq_of_lt x.isLt
theorem kadd_p {b : Nat} {x y t : Fe} (ht : t = x + y) {w : World} (hF : Fp w b) : Calls Tryz.prog 104 #[ptrTo b,nv x.val,nv y.val] w fun e w' => e = .returned (nv t.val) ∧ Ext w w':=by
 obtain ⟨N,Q,h1,h2⟩:=hF
 exact zia b x.val y.val Pt.pp N Q t.val (zee x) (zee y) h1 (by rw [fe_mod,fe_mod,Pt.v_add,ht]) w h2
theorem zds {b : Nat} {x y t : Fe} (ht : t = x - y) {w : World} (hF : Fp w b) : Calls Tryz.prog 105 #[ptrTo b,nv x.val,nv y.val] w fun e w' => e = .returned (nv t.val) ∧ Ext w w':=by
 obtain ⟨N,Q,h1,h2⟩:=hF
 exact fsub2_calls b x.val y.val Pt.pp N Q t.val (zee x) (zee y) h1 (by rw [fe_mod,fe_mod,Pt.v_sub,ht]) w h2
theorem zbs {b : Nat} {x y t : Fe} (ht : t = x * y) {w : World} (hF : Fp w b) : Calls Tryz.prog 89 #[ptrTo b,nv x.val,nv y.val] w fun e w' => e = .returned (nv t.val) ∧ Ext w w':=by
 obtain ⟨N,Q,h1,h2⟩:=hF
 exact fmul2_calls b x.val y.val Pt.pp N Q t.val (zee x) (zee y) h1 (by rw [Pt.v_mul,ht]) w h2
theorem kinv_p {b : Nat} {x t : Fe} (hx : x ≠ 0) (ht : t = Pt.E256.inv x) {w : World} (hF : Fp w b) : Calls Tryz.prog 87 #[ptrTo b,nv x.val] w fun e w' => e = .returned (.tuple #[nv t.val,.nilIface]) ∧ Ext w w':=by
 obtain ⟨N,Q,h1,h2⟩:=hF
 refine (zjj b x.val Pt.pp N Q (zee x) h1 w h2).mono ?_
 rintro e w' ⟨⟨y,hy,hi,rfl⟩,hb⟩
 have hg:=Pt.v_gcd hx
 rw [zjf hg,Pt.v_inv hy (hi hg),ht]
 exact ⟨rfl,hb⟩
theorem kinv_z {b : Nat} {w : World} (hF : Fp w b) : Calls Tryz.prog 87 #[ptrTo b,nv 0] w fun e w' => e = .returned (.tuple #[nv 0,.iface 35 (.int .i64 4)]) ∧ Ext w w':=by
 obtain ⟨N,Q,h1,h2⟩:=hF
 refine (zjj b 0 Pt.pp N Q (Nat.two_pow_pos 256) h1 w h2).mono ?_
 rintro e w' ⟨⟨y,hy,hi,rfl⟩,hb⟩
 have hg : ¬ Nat.gcd 0 Pt.pp = 1:=by rw [Nat.gcd_zero_left]; decide +kernel
 rw [invRet_no hg]
 exact ⟨rfl,hb⟩
/-! ### operations -/
section
variable {P : Program} {o : Oper} {a : Act} {w : World}
end
theorem zav (W : World) : (isAgg 77).run Tryz.prog W = .ok false W:=by simp [isAgg,go_sem]
theorem isn_inv (W : World) : (isAgg 101).run Tryz.prog W = .ok false W:=by simp [isAgg,go_sem]
section
variable (g : Nat) (W : World)
theorem fldK0 : (Instr.fieldAt 103 (ptrTo g) 0).run Tryz.prog W = .ok (.pointer (some ⟨g,0,none⟩)) W:=by simp [Instr.fieldAt,go_sem]
theorem fldK1 : (Instr.fieldAt 103 (ptrTo g) 1).run Tryz.prog W = .ok (.pointer (some ⟨g,1,none⟩)) W:=by simp [Instr.fieldAt,go_sem]
theorem fldK2 : (Instr.fieldAt 103 (ptrTo g) 2).run Tryz.prog W = .ok (.pointer (some ⟨g,2,none⟩)) W:=by simp [Instr.fieldAt,go_sem]
theorem fldK3 : (Instr.fieldAt 103 (ptrTo g) 3).run Tryz.prog W = .ok (.pointer (some ⟨g,3,none⟩)) W:=by simp [Instr.fieldAt,go_sem]
theorem fldS0 : (Instr.fieldAt 146 (ptrTo g) 0).run Tryz.prog W = .ok (.pointer (some ⟨g,0,none⟩)) W:=by simp [Instr.fieldAt,go_sem]
theorem fldS1 : (Instr.fieldAt 146 (ptrTo g) 1).run Tryz.prog W = .ok (.pointer (some ⟨g,4,none⟩)) W:=by simp [Instr.fieldAt,go_sem]
theorem fldS2 : (Instr.fieldAt 146 (ptrTo g) 2).run Tryz.prog W = .ok (.pointer (some ⟨g,8,none⟩)) W:=by simp [Instr.fieldAt,go_sem]
theorem hzS : (Instr.alloc 146 true (.tuple #[])).run Tryz.prog W = .ok (ptrTo W.heap.size) (W.alloc (.cells #[vI vU 0,vI vU 0,vI vU 0,vI vU 0,vI vU 0,vI vU 0,vI vU 0,vI vU 0,vI vU 0,vI vU 0,vI vU 0,vI vU 0] 146)):=by simp [Instr.alloc,go_sem]
theorem hzK : (Instr.alloc 103 true (.tuple #[])).run Tryz.prog W = .ok (ptrTo W.heap.size) (W.alloc (.cells #[.nilFunc,.nilFunc,.nilFunc,.nilFunc] 103)):=by simp [Instr.alloc,go_sem]
theorem bldS (x y z : Nat) : (Instr.build 146 [(0,nv x),(1,nv y),(2,nv z)].toArray).run Tryz.prog W = .ok (sv x y z) W:=by simp [Instr.build,go_sem,nv,nc,sv,sc]
theorem bldK (b : Nat) : (Instr.build 103 [(0,fv 104 b),(1,fv 105 b),(2,fv 89 b),(3,fv 87 b)].toArray).run Tryz.prog W = .ok (cv b) W:=by simp [Instr.build,go_sem,fv,cv,cc]
theorem bldS0 : (Instr.build 146 [].toArray).run Tryz.prog W = .ok (sv 0 0 0) W:=by
 obtain ⟨h0,h1,h2,h3⟩:=wd_z
 unfold sv sc
 rw [h0,h1,h2,h3]
 simp [Instr.build,go_sem]
theorem bldGx : (Instr.build 26 [(0,.int .u64 17627433388654248598),(1,.int .u64 8575836109218198432),(2,.int .u64 17923454489921339634),(3,.int .u64 7716867327612699207)].toArray).run Tryz.prog W = .ok (nv Pt.gx) W:=by
 obtain ⟨h0,h1,h2,h3⟩:=gx_lits
 unfold nv nc
 rw [h0,h1,h2,h3]
 simp [Instr.build,go_sem]
theorem bldGy : (Instr.build 26 [(0,.int .u64 14678990851816772085),(1,.int .u64 3156516839386865358),(2,.int .u64 10297457778147434006),(3,.int .u64 5756518291402817435)].toArray).run Tryz.prog W = .ok (nv Pt.gy) W:=by
 obtain ⟨h0,h1,h2,h3⟩:=gy_lits
 unfold nv nc
 rw [h0,h1,h2,h3]
 simp [Instr.build,go_sem]
end
theorem he_kAdd (args : Array Value) (W : World) : (callFunc 104 args).run Tryz.prog W = .ok (.enter 104 args) W:=zae Tryz.func104 rfl rfl args W
theorem zcz (args : Array Value) (W : World) : (callFunc 105 args).run Tryz.prog W = .ok (.enter 105 args) W:=zae Tryz.func105 rfl rfl args W
theorem zbh (args : Array Value) (W : World) : (callFunc 89 args).run Tryz.prog W = .ok (.enter 89 args) W:=zae Tryz.func89 rfl rfl args W
theorem he_kInv (args : Array Value) (W : World) : (callFunc 87 args).run Tryz.prog W = .ok (.enter 87 args) W:=zae Tryz.func87 rfl rfl args W
theorem zdn {b : Nat} {x t : Fe} (ht : t = x + x) {w : World} (hF : Fp w b) :
  Calls Tryz.prog 140 #[cv b,nv x.val] w fun e w' => e = .returned (nv t.val) ∧ Ext w w':=by
 have kt:=veil ht
 clear ht
 unfold cv nv cc fv nc
 go_enter Tryz.func140,Tryz.ntmps140
 go_upto_region 1 with (fail)
 refine zek fun w1 hx b0 b1 b2 => ?_
 have b0 : w1.heap[w.heap.size]? = some (.cells (cc b) 103 (0,0)):=b0
 have b1 : w1.heap[w.heap.size + 1]? = some (.cells (nc x.val) 26 (0,0)):=b1
 have hf:=hF.ext hx
 clear hF
 refine' zaq (m:=5) (A:=_) (by kernel_rfl) ?h1 ?h2
 case h1 =>
  refine zaa (ptrTo w.heap.size) rfl (zaf rfl rfl (fldK0 _ ·)) ?_
  refine zaa (fv 104 b) rfl (zak rfl rfl b0 rfl (zav ·)) ?_;simp only [aP,lA,lZ,lS]
  refine zaa (nv x.val) rfl (zad rfl rfl b1 rfl uN rfl (iN _)) ?_
  refine zaa (nv x.val) rfl (zad rfl rfl b1 rfl uN rfl (iN _)) ?_;simp only [aP,lA,lZ,lS]
  refine zaa (nv t.val) rfl (zay (args:=[nv x.val,nv x.val]) rfl rfl rfl (he_kAdd _ ·) (fun W hW => kadd_p kt.out (hf.ext hW))) ?_;simp only [aP,lA,lZ,lS]
  exact zan
 refine zbr _ rfl rfl rfl rfl rfl rfl b2 (iN _) rfl (zbd _) ?_
 intro w2 hB hb
 go_wp2
 exact bodyPost_ret (results_cell_row rfl _ _ (w.heap.size + 1 + 1) 26 (nc t.val) (0,0) _ rfl hb Tryz.underlying26 rfl (by kernel_rfl)) rfl ⟨rfl,hx.new hB (by omega)⟩
theorem trp_calls {b : Nat} {x t : Fe} (ht : t = x + x + x) {w : World} (hF : Fp w b) :
  Calls Tryz.prog 107 #[cv b,nv x.val] w fun e w' => e = .returned (nv t.val) ∧ Ext w w':=by
 obtain ⟨y,hy⟩ : ∃ t : Fe,t = x + x:=⟨_,rfl⟩
 rw [← hy] at ht
 have ky:=veil hy
 clear hy
 have kt:=veil ht
 clear ht
 unfold cv nv cc fv nc
 go_enter Tryz.func107,Tryz.ntmps107
 go_upto_region 1 with (fail)
 refine zek fun w1 hx b0 b1 b2 => ?_
 have b0 : w1.heap[w.heap.size]? = some (.cells (cc b) 103 (0,0)):=b0
 have b1 : w1.heap[w.heap.size + 1]? = some (.cells (nc x.val) 26 (0,0)):=b1
 have hf:=hF.ext hx
 clear hF
 refine' zbx (m:=7) (A:=_) 7 (by kernel_rfl) (by kernel_rfl) (by kernel_rfl) ?h1 ?h2
 case h1 =>
  refine zaa (ptrTo w.heap.size) rfl (zaf rfl rfl (fldK0 _ ·)) ?_
  refine zaa (fv 104 b) rfl (zak rfl rfl b0 rfl (zav ·)) ?_;simp only [aP,lA,lZ,lS]
  refine zaa (cv b) rfl (zad rfl rfl b0 rfl Tryz.underlying103 rfl (iK _)) ?_
  refine zaa (nv x.val) rfl (zad rfl rfl b1 rfl uN rfl (iN _)) ?_;simp only [aP,lA,lZ,lS]
  refine zaa (nv y.val) rfl (zam (args:=[cv b,nv x.val]) rfl rfl (fun W => zae Tryz.func140 rfl rfl _ W) (fun W hW => zdn ky.out (hf.ext hW))) ?_
  refine zaa (nv x.val) rfl (zad rfl rfl b1 rfl uN rfl (iN _)) ?_;simp only [aP,lA,lZ,lS]
  refine zaa (nv t.val) rfl (zay (args:=[nv y.val,nv x.val]) rfl rfl rfl (he_kAdd _ ·) (fun W hW => kadd_p kt.out (hf.ext hW))) ?_;simp only [aP,lA,lZ,lS]
  exact zan
 refine zfp _ rfl rfl rfl rfl rfl (by kernel_rfl) (by kernel_rfl) rfl rfl rfl b2 (iN _) rfl (zbd _) ?_
 intro w2 hB hb
 refine NoPanic.normal ?_
 go_wp2
 exact bodyPost_ret (results_cell_row rfl _ _ (w.heap.size + 1 + 1) 26 (nc t.val) (0,0) _ rfl hb Tryz.underlying26 rfl (by kernel_rfl)) rfl ⟨rfl,hx.new hB (by omega)⟩
end Go.Proofs.YtedehdbajiaaiaaGreatDoor
