/-
  Of FCut FCutn FAdd2 NS4 KH W2 KR Rdd Rde Rdf.
-/
import Derived.Deep.CutRange
import Derived.Laws.CopyOwn
import Derived.Test.YtihophdbkjhopaaGreatDoorZB16
import Derived.Test.YtihophdbkjhopaaGreatDoorZB15
import Derived.Test.YtihophdbkjhopaaGreatDoorZB3
import Derived.Test.YtihophdbkjhopaaGreatDoorZB5
import Derived.Test.YtihophdbkjhopaaGreatDoorZB10
import Derived.Test.YtihophdbkjhopaaGreatDoorZB12
import Derived.Test.YtihophdbkjhopaaGreatDoorZB11
import Derived.Test.YtihophdbkjhopaaGreatDoorZB8
import Derived.Test.YtihophdbkjhopaaGreatDoorZB17
import Derived.Test.YtihophdbkjhopaaGreatDoorZB9
set_option maxRecDepth 1000000
set_option maxHeartbeats 20000000
namespace Go.Proofs.YtihophdbkjhopaaGreatDoor
open Go.RowKit
open Go.Value renaming int → vI
open Go.IntKind renaming u64 → vU
open Go.Act renaming put → aP
open List renaming setIfInBounds_toArray → lA, set_cons_zero → lZ, set_cons_succ → lS
theorem kshr (b X M : Nat) (N : Int) (Q V Z : Nat) (hV : V * top % M = X % M) (hlt : X < M * top) (hX : X < top8) (hZ : V % M = Z) (hK : Fok M N Q) (w : World) (hF : Fb w b M N Q) :
  Calls Tryz.prog 157 #[.pointer (some ⟨b,0,none⟩),.agg #[vI vU (wd X 0),vI vU (wd X 1),vI vU (wd X 2),vI vU (wd X 3),vI vU (wd X 4),vI vU (wd X 5),vI vU (wd X 6),vI vU (wd X 7)]] w fun e w' => e = .returned (.agg #[vI vU (wd Z 0),vI vU (wd Z 1),vI vU (wd Z 2),vI vU (wd Z 3)]) ∧ Below w.heap.size w w':=by
 refine (shrunk_any b X M N Q hX hK w hF).mono ?_
 rintro e w' ⟨⟨Z',h1,h2,h3,rfl⟩,hb⟩
 have e1:=cut_top hK.odd (h2.trans hV.symm)
 rw [Nat.mod_eq_of_lt (h3 hlt),hZ] at e1
 subst e1
 exact ⟨rfl,hb⟩
theorem sq_num {Z X M : Nat} {N : Int} {Q : Nat} (hK : Fok M N Q) (h : Z * top % M = X % M) : X * top % M = Z * Q % M:=by
 rw [hK.q,Nat.mul_mod_mod,zjg,← Nat.mul_assoc,← Nat.mod_mul_mod (Z * top),h,Nat.mod_mul_mod]
theorem mul_lt8 {X Y : Nat} (hX : X < top) (hY : Y < top) : X * Y < top8:=by
 rw [zjg]; exact Nat.mul_lt_mul'' hX hY
theorem mul_ltm {X Q M : Nat} (hX : X < top) (hQ : Q < M) : X * Q < M * top:=by
 rw [Nat.mul_comm M]; exact Nat.mul_lt_mul'' hX hQ
theorem cutw_calls (b X M : Nat) (N : Int) (Q P : Nat) (hX : X < top8) (hK : Fok M N Q) (hP : X % M = P) (w : World) (hF : Fb w b M N Q) :
  Calls Tryz.prog 131 #[.pointer (some ⟨b,0,none⟩),.agg #[vI vU (wd X 0),vI vU (wd X 1),vI vU (wd X 2),vI vU (wd X 3),vI vU (wd X 4),vI vU (wd X 5),vI vU (wd X 6),vI vU (wd X 7)]] w fun e w' => e = .returned (.agg #[vI vU (wd P 0),vI vU (wd P 1),vI vU (wd P 2),vI vU (wd P 3)]) ∧ Below w.heap.size w w':=by
 have hQ:=hK.qm
 have hQt : Q < top:=by have:=hK.mt; omega
 have HX:=veil hX
 have HQ:=veil hQ
 have HP:=veil hP
 clear hX hQ hP
 have hA : ((w.alloc (.cells #[vI vU (wd X 0),vI vU (wd X 1),vI vU (wd X 2),vI vU (wd X 3),vI vU (wd X 4),vI vU (wd X 5),vI vU (wd X 6),vI vU (wd X 7)] 142)).alloc (.cells #[vI vU 0,vI vU 0,vI vU 0,vI vU 0] 29)).rowIs w.heap.size 142 8 (fun j => .int .u64 (wd X j)):=(zag (n:=8) (by simp) rfl (arr8 fun j => .int .u64 (wd X j))).alloc _
 have hR : ((w.alloc (.cells #[vI vU (wd X 0),vI vU (wd X 1),vI vU (wd X 2),vI vU (wd X 3),vI vU (wd X 4),vI vU (wd X 5),vI vU (wd X 6),vI vU (wd X 7)] 142)).alloc (.cells #[vI vU 0,vI vU 0,vI vU 0,vI vU 0] 29)).rowIs (w.heap.size + 1) 29 4 (fun _ => .int .u64 0):=zag (n:=4) (by simp) rfl (arr4 fun _ => .int .u64 0)
 have hbel : Below w.heap.size w ((w.alloc (.cells #[vI vU (wd X 0),vI vU (wd X 1),vI vU (wd X 2),vI vU (wd X 3),vI vU (wd X 4),vI vU (wd X 5),vI vU (wd X 6),vI vU (wd X 7)] 142)).alloc (.cells #[vI vU 0,vI vU 0,vI vU 0,vI vU 0] 29)):=((Below.refl _ _).alloc (by simp) _).alloc (by simp) _
 have hFr : Fb ((w.alloc (.cells #[vI vU (wd X 0),vI vU (wd X 1),vI vU (wd X 2),vI vU (wd X 3),vI vU (wd X 4),vI vU (wd X 5),vI vU (wd X 6),vI vU (wd X 7)] 142)).alloc (.cells #[vI vU 0,vI vU 0,vI vU 0,vI vU 0] 29)) b M N Q:=((hF).alloc _).alloc _
 have hbs:=hF.lt
 clear hF
 go_enter Tryz.func131,Tryz.ntmps131
 go_wp2_with fail
 generalize ((w.alloc (.cells #[vI vU (wd X 0),vI vU (wd X 1),vI vU (wd X 2),vI vU (wd X 3),vI vU (wd X 4),vI vU (wd X 5),vI vU (wd X 6),vI vU (wd X 7)] 142)).alloc (.cells #[vI vU 0,vI vU 0,vI vU 0,vI vU 0] 29)) = w0 at *
 obtain ⟨a0,a1,a2,a3,a4,a5,a6,a7⟩:=row_c8 hA
 obtain ⟨s0,s1,s2,s3⟩:=hFr.sq
 obtain ⟨f0,f1,f2,f3⟩:=zbq hR
 obtain ⟨d0,d1,d2,d3⟩:=zaj hR
 go_region_with (first
  | (go_at_call 157; refine (kshr b (Z * Q) M N Q X P (sq_num hK HZ.out) (mul_ltm hZt HQ.out) (mul_lt8 hZt hQt) HP.out hK _ (by exact hFr)).mono ?_; rintro e w3 ⟨rfl,hb3⟩; replace hR:=zad (by exact hR) hb3 (by exact hR.lt); replace hFr:=Fb.below (by exact hFr) hb3 (by exact hFr.lt); replace hbel:=Below.trans (by first | exact hbel | exact hbel.drew) (hb3.mono (by exact hbel.size)); obtain ⟨f0,f1,f2,f3⟩:=zbq hR; obtain ⟨d0,d1,d2,d3⟩:=zaj hR)
  | (go_at_call 157; refine (shrunk_any b X M N Q HX.out hK _ (by exact hFr)).mono ?_; rintro e w1 ⟨⟨Z,hZt,hZ1,_,rfl⟩,hb1⟩; replace hR:=zad (by exact hR) hb1 (by exact hR.lt); replace hFr:=Fb.below (by exact hFr) hb1 (by exact hFr.lt); replace hbel:=Below.trans (by first | exact hbel | exact hbel.drew) (hb1.mono (by exact hbel.size)); have HZ:=veil hZ1; clear hZ1; obtain ⟨s0,s1,s2,s3⟩:=hFr.sq)
  | (go_at_call 132; refine (kmul Z Q _ rfl hZt hQt _).mono ?_; rintro e w2 ⟨rfl,hb2⟩; replace hR:=zad (by exact hR) hb2 (by exact hR.lt); replace hFr:=Fb.below (by exact hFr) hb2 (by exact hFr.lt); replace hbel:=Below.trans (by first | exact hbel | exact hbel.drew) (hb2.mono (by exact hbel.size))))
 all_goals
  clear a0 a1 a2 a3 a4 a5 a6 a7 s0 s1 s2 s3 f0 f1 f2 f3 d0 d1 d2 d3
  go_wp2
  refine bodyPost_ret (results_cell_row rfl _ _ (w.heap.size + 1) 29 #[vI vU (wd P 0),vI vU (wd P 1),vI vU (wd P 2),vI vU (wd P 3)] (0,0) _ rfl (blk4 (put4 hR fun j => .int .u64 (wd (P) j))) Tryz.underlying29 rfl (by kernel_rfl)) rfl ⟨rfl,zaw hbel (by omega) _ _ _ _⟩
theorem top_lt8 {X : Nat} (h : X < top) : X < top8:=by
 rw [zjg]; exact Nat.lt_of_lt_of_le h (Nat.le_mul_of_pos_right _ zbp)
theorem fcut_less (b X M : Nat) (N : Int) (Q P : Nat) (hX : X < top) (hK : Fok M N Q) (hP : X % M = P) (hl : X < M) (w : World) (hF : Fb w b M N Q) :
  Calls Tryz.prog 159 #[.pointer (some ⟨b,0,none⟩),.agg #[vI vU (wd X 0),vI vU (wd X 1),vI vU (wd X 2),vI vU (wd X 3)]] w fun e w' => e = .returned (.agg #[vI vU (wd P 0),vI vU (wd P 1),vI vU (wd P 2),vI vU (wd P 3)]) ∧ Below w.heap.size w w':=by
 obtain ⟨c,hc⟩ : ∃ c,c = cmpN X M:=⟨_,rfl⟩
 have hcn : c = -1:=by rw [hc]; unfold cmpN; rw [if_pos hl]
 have KC:=veil (fun W => kcmp X M c hc.symm hX hK.mt W)
 rw [Nat.mod_eq_of_lt hl] at hP
 subst hP
 subst hcn
 clear hc hl hX
 have hA : ((w.alloc (.cells #[vI vU (wd X 0),vI vU (wd X 1),vI vU (wd X 2),vI vU (wd X 3)] 29)).alloc (.cells #[vI vU 0,vI vU 0,vI vU 0,vI vU 0] 29)).rowIs w.heap.size 29 4 (fun j => .int .u64 (wd X j)):=(zag (n:=4) (by simp) rfl (arr4 fun j => .int .u64 (wd X j))).alloc _
 have hR : ((w.alloc (.cells #[vI vU (wd X 0),vI vU (wd X 1),vI vU (wd X 2),vI vU (wd X 3)] 29)).alloc (.cells #[vI vU 0,vI vU 0,vI vU 0,vI vU 0] 29)).rowIs (w.heap.size + 1) 29 4 (fun _ => .int .u64 0):=zag (n:=4) (by simp) rfl (arr4 fun _ => .int .u64 0)
 have hbel : Below w.heap.size w ((w.alloc (.cells #[vI vU (wd X 0),vI vU (wd X 1),vI vU (wd X 2),vI vU (wd X 3)] 29)).alloc (.cells #[vI vU 0,vI vU 0,vI vU 0,vI vU 0] 29)):=((Below.refl _ _).alloc (by simp) _).alloc (by simp) _
 have hFr : Fb ((w.alloc (.cells #[vI vU (wd X 0),vI vU (wd X 1),vI vU (wd X 2),vI vU (wd X 3)] 29)).alloc (.cells #[vI vU 0,vI vU 0,vI vU 0,vI vU 0] 29)) b M N Q:=((hF).alloc _).alloc _
 have hbs:=hF.lt
 clear hF
 go_enter Tryz.func159,Tryz.ntmps159
 go_wp2_with fail
 generalize ((w.alloc (.cells #[vI vU (wd X 0),vI vU (wd X 1),vI vU (wd X 2),vI vU (wd X 3)] 29)).alloc (.cells #[vI vU 0,vI vU 0,vI vU 0,vI vU 0] 29)) = w0 at *
 obtain ⟨a0,a1,a2,a3⟩:=zaj hA
 obtain ⟨m0,m1,m2,m3⟩:=hFr.mod
 go_region_with (go_at_call 98; refine (KC.out _).mono ?_; rintro e w1 ⟨rfl,hb1⟩; replace hA:=zad (by exact hA) hb1 (by exact hA.lt); replace hR:=zad (by exact hR) hb1 (by exact hR.lt); replace hFr:=Fb.below (by exact hFr) hb1 (by exact hFr.lt); replace hbel:=Below.trans (by first | exact hbel | exact hbel.drew) (hb1.mono (by exact hbel.size)))
 all_goals
  clear a0 a1 a2 a3 m0 m1 m2 m3 hb1
  obtain ⟨a0,a1,a2,a3⟩:=zaj hA
  obtain ⟨f0,f1,f2,f3⟩:=zbq hR
  obtain ⟨d0,d1,d2,d3⟩:=zaj hR
  go_wp2
  refine bodyPost_ret (results_cell_row rfl _ _ (w.heap.size + 1) 29 #[vI vU (wd X 0),vI vU (wd X 1),vI vU (wd X 2),vI vU (wd X 3)] (0,0) _ rfl (blk4 (put4 hR fun j => .int .u64 (wd (X) j))) Tryz.underlying29 rfl (by kernel_rfl)) rfl ⟨rfl,zaw hbel (by omega) _ _ _ _⟩
theorem fcut_more (b X M : Nat) (N : Int) (Q P : Nat) (hX : X < top) (hK : Fok M N Q) (hP : X % M = P) (hl : ¬ X < M) (w : World) (hF : Fb w b M N Q) :
  Calls Tryz.prog 159 #[.pointer (some ⟨b,0,none⟩),.agg #[vI vU (wd X 0),vI vU (wd X 1),vI vU (wd X 2),vI vU (wd X 3)]] w fun e w' => e = .returned (.agg #[vI vU (wd P 0),vI vU (wd P 1),vI vU (wd P 2),vI vU (wd P 3)]) ∧ Below w.heap.size w w':=by
 obtain ⟨c,hc⟩ : ∃ c,c = cmpN X M:=⟨_,rfl⟩
 have hcn : 0 ≤ c:=by rw [hc,cmp_ge]; exact hl
 have KC:=veil (fun W => kcmp X M c hc.symm hX hK.mt W)
 have K1:=veil (fun W => wide_calls X hX W)
 have K2:=veil (fun W (h : Fb W b M N Q) => cutw_calls b X M N Q P (top_lt8 hX) hK hP W h)
 clear hc hl hX hP
 have hA : ((w.alloc (.cells #[vI vU (wd X 0),vI vU (wd X 1),vI vU (wd X 2),vI vU (wd X 3)] 29)).alloc (.cells #[vI vU 0,vI vU 0,vI vU 0,vI vU 0] 29)).rowIs w.heap.size 29 4 (fun j => .int .u64 (wd X j)):=(zag (n:=4) (by simp) rfl (arr4 fun j => .int .u64 (wd X j))).alloc _
 have hR : ((w.alloc (.cells #[vI vU (wd X 0),vI vU (wd X 1),vI vU (wd X 2),vI vU (wd X 3)] 29)).alloc (.cells #[vI vU 0,vI vU 0,vI vU 0,vI vU 0] 29)).rowIs (w.heap.size + 1) 29 4 (fun _ => .int .u64 0):=zag (n:=4) (by simp) rfl (arr4 fun _ => .int .u64 0)
 have hbel : Below w.heap.size w ((w.alloc (.cells #[vI vU (wd X 0),vI vU (wd X 1),vI vU (wd X 2),vI vU (wd X 3)] 29)).alloc (.cells #[vI vU 0,vI vU 0,vI vU 0,vI vU 0] 29)):=((Below.refl _ _).alloc (by simp) _).alloc (by simp) _
 have hFr : Fb ((w.alloc (.cells #[vI vU (wd X 0),vI vU (wd X 1),vI vU (wd X 2),vI vU (wd X 3)] 29)).alloc (.cells #[vI vU 0,vI vU 0,vI vU 0,vI vU 0] 29)) b M N Q:=((hF).alloc _).alloc _
 have hbs:=hF.lt
 clear hF
 go_enter Tryz.func159,Tryz.ntmps159
 go_wp2_with fail
 generalize ((w.alloc (.cells #[vI vU (wd X 0),vI vU (wd X 1),vI vU (wd X 2),vI vU (wd X 3)] 29)).alloc (.cells #[vI vU 0,vI vU 0,vI vU 0,vI vU 0] 29)) = w0 at *
 obtain ⟨a0,a1,a2,a3⟩:=zaj hA
 obtain ⟨m0,m1,m2,m3⟩:=hFr.mod
 go_region_with (go_at_call 98; refine (KC.out _).mono ?_; rintro e w1 ⟨rfl,hb1⟩; replace hA:=zad (by exact hA) hb1 (by exact hA.lt); replace hR:=zad (by exact hR) hb1 (by exact hR.lt); replace hFr:=Fb.below (by exact hFr) hb1 (by exact hFr.lt); replace hbel:=Below.trans (by first | exact hbel | exact hbel.drew) (hb1.mono (by exact hbel.size)))
 all_goals
  clear a0 a1 a2 a3 m0 m1 m2 m3 hb1
  obtain ⟨a0,a1,a2,a3⟩:=zaj hA
  go_wp2_with fail
  refine (K1.out _).mono ?_
  rintro e w2 ⟨rfl,hb2⟩
  replace hR:=zad (by exact hR) hb2 (by exact hR.lt)
  replace hFr:=Fb.below (by exact hFr) hb2 (by exact hFr.lt)
  replace hbel:=Below.trans (by first | exact hbel | exact hbel.drew) (hb2.mono (by exact hbel.size))
  clear a0 a1 a2 a3 hA hb2
  go_wp2_with fail
  refine (K2.out _ hFr).mono ?_
  rintro e w3 ⟨rfl,hb3⟩
  replace hR:=zad (by exact hR) hb3 (by exact hR.lt)
  replace hFr:=Fb.below (by exact hFr) hb3 (by exact hFr.lt)
  replace hbel:=Below.trans (by first | exact hbel | exact hbel.drew) (hb3.mono (by exact hbel.size))
  clear hb3 hFr
  obtain ⟨f0,f1,f2,f3⟩:=zbq hR
  obtain ⟨d0,d1,d2,d3⟩:=zaj hR
  go_wp2
  refine bodyPost_ret (results_cell_row rfl _ _ (w.heap.size + 1) 29 #[vI vU (wd P 0),vI vU (wd P 1),vI vU (wd P 2),vI vU (wd P 3)] (0,0) _ rfl (blk4 (put4 hR fun j => .int .u64 (wd (P) j))) Tryz.underlying29 rfl (by kernel_rfl)) rfl ⟨rfl,zaw hbel (by omega) _ _ _ _⟩
theorem fcut_calls (b X M : Nat) (N : Int) (Q P : Nat) (hX : X < top) (hK : Fok M N Q) (hP : X % M = P) (w : World) (hF : Fb w b M N Q) :
  Calls Tryz.prog 159 #[.pointer (some ⟨b,0,none⟩),.agg #[vI vU (wd X 0),vI vU (wd X 1),vI vU (wd X 2),vI vU (wd X 3)]] w fun e w' => e = .returned (.agg #[vI vU (wd P 0),vI vU (wd P 1),vI vU (wd P 2),vI vU (wd P 3)]) ∧ Below w.heap.size w w':=by
 by_cases h : X < M
 ·
  exact fcut_less b X M N Q P hX hK hP h w hF
 ·
  exact fcut_more b X M N Q P hX hK hP h w hF
theorem fadd2_calls (b X Y M : Nat) (N : Int) (Q Z : Nat) (hX : X < top) (hY : Y < top) (hK : Fok M N Q) (hZ : (X % M + Y % M) % M = Z) (w : World) (hF : Fb w b M N Q) :
  Calls Tryz.prog 133 #[.pointer (some ⟨b,0,none⟩),.agg #[vI vU (wd X 0),vI vU (wd X 1),vI vU (wd X 2),vI vU (wd X 3)],.agg #[vI vU (wd Y 0),vI vU (wd Y 1),vI vU (wd Y 2),vI vU (wd Y 3)]] w fun e w' => e = .returned (.agg #[vI vU (wd Z 0),vI vU (wd Z 1),vI vU (wd Z 2),vI vU (wd Z 3)]) ∧ Below w.heap.size w w':=by
 have hM0 : 0 < M:=by have:=hK.m2; omega
 have hX2:=Nat.mod_lt X hM0
 have hY2:=Nat.mod_lt Y hM0
 have K3:=veil (fun W (h : Fb W b M N Q) => fadd_calls b (X % M) (Y % M) M N Q Z hX2 hY2 hK.mt hZ W h)
 have HK:=veil hK
 clear hK hZ hM0 hX2 hY2
 have hA : (((w.alloc (.cells #[vI vU (wd X 0),vI vU (wd X 1),vI vU (wd X 2),vI vU (wd X 3)] 29)).alloc (.cells #[vI vU (wd Y 0),vI vU (wd Y 1),vI vU (wd Y 2),vI vU (wd Y 3)] 29)).alloc (.cells #[vI vU 0,vI vU 0,vI vU 0,vI vU 0] 29)).rowIs w.heap.size 29 4 (fun j => .int .u64 (wd X j)):=((zag (n:=4) (by simp) rfl (arr4 fun j => .int .u64 (wd X j))).alloc _).alloc _
 have hB : (((w.alloc (.cells #[vI vU (wd X 0),vI vU (wd X 1),vI vU (wd X 2),vI vU (wd X 3)] 29)).alloc (.cells #[vI vU (wd Y 0),vI vU (wd Y 1),vI vU (wd Y 2),vI vU (wd Y 3)] 29)).alloc (.cells #[vI vU 0,vI vU 0,vI vU 0,vI vU 0] 29)).rowIs (w.heap.size + 1) 29 4 (fun j => .int .u64 (wd Y j)):=(zag (n:=4) (by simp) rfl (arr4 fun j => .int .u64 (wd Y j))).alloc _
 have hR : (((w.alloc (.cells #[vI vU (wd X 0),vI vU (wd X 1),vI vU (wd X 2),vI vU (wd X 3)] 29)).alloc (.cells #[vI vU (wd Y 0),vI vU (wd Y 1),vI vU (wd Y 2),vI vU (wd Y 3)] 29)).alloc (.cells #[vI vU 0,vI vU 0,vI vU 0,vI vU 0] 29)).rowIs (w.heap.size + 1 + 1) 29 4 (fun _ => .int .u64 0):=zag (n:=4) (by simp) rfl (arr4 fun _ => .int .u64 0)
 have hbel : Below w.heap.size w (((w.alloc (.cells #[vI vU (wd X 0),vI vU (wd X 1),vI vU (wd X 2),vI vU (wd X 3)] 29)).alloc (.cells #[vI vU (wd Y 0),vI vU (wd Y 1),vI vU (wd Y 2),vI vU (wd Y 3)] 29)).alloc (.cells #[vI vU 0,vI vU 0,vI vU 0,vI vU 0] 29)):=(((Below.refl _ _).alloc (by simp) _).alloc (by simp) _).alloc (by simp; omega) _
 have hFr : Fb (((w.alloc (.cells #[vI vU (wd X 0),vI vU (wd X 1),vI vU (wd X 2),vI vU (wd X 3)] 29)).alloc (.cells #[vI vU (wd Y 0),vI vU (wd Y 1),vI vU (wd Y 2),vI vU (wd Y 3)] 29)).alloc (.cells #[vI vU 0,vI vU 0,vI vU 0,vI vU 0] 29)) b M N Q:=(((hF).alloc _).alloc _).alloc _
 have hbs:=hF.lt
 clear hF
 go_enter Tryz.func133,Tryz.ntmps133
 go_wp2_with fail
 generalize (((w.alloc (.cells #[vI vU (wd X 0),vI vU (wd X 1),vI vU (wd X 2),vI vU (wd X 3)] 29)).alloc (.cells #[vI vU (wd Y 0),vI vU (wd Y 1),vI vU (wd Y 2),vI vU (wd Y 3)] 29)).alloc (.cells #[vI vU 0,vI vU 0,vI vU 0,vI vU 0] 29)) = w0 at *
 obtain ⟨a0,a1,a2,a3⟩:=zaj hA
 obtain ⟨b0,b1,b2,b3⟩:=zaj hB
 obtain ⟨f0,f1,f2,f3⟩:=zbq hR
 obtain ⟨d0,d1,d2,d3⟩:=zaj hR
 go_region_with (first
  | (go_at_call 159; refine (fcut_calls b _ M N Q _ (by assumption) HK.out rfl _ (by exact hFr)).mono ?_; rintro e w1 ⟨rfl,hb1⟩; replace hB:=zad (by exact hB) hb1 (by exact hB.lt); replace hA:=zad (by exact hA) hb1 (by exact hA.lt); replace hR:=zad (by exact hR) hb1 (by exact hR.lt); replace hFr:=Fb.below (by exact hFr) hb1 (by exact hFr.lt); replace hbel:=Below.trans (by first | exact hbel | exact hbel.drew) (hb1.mono (by exact hbel.size)); obtain ⟨b0,b1,b2,b3⟩:=zaj hB; obtain ⟨a0,a1,a2,a3⟩:=zaj hA)
  | (go_at_call 154; refine (K3.out _ (by exact hFr)).mono ?_; rintro e w3 ⟨rfl,hb3⟩; replace hR:=zad (by exact hR) hb3 (by exact hR.lt); replace hFr:=Fb.below (by exact hFr) hb3 (by exact hFr.lt); replace hbel:=Below.trans (by first | exact hbel | exact hbel.drew) (hb3.mono (by exact hbel.size)); obtain ⟨f0,f1,f2,f3⟩:=zbq hR; obtain ⟨d0,d1,d2,d3⟩:=zaj hR))
 all_goals
  clear a0 a1 a2 a3 b0 b1 b2 b3 f0 f1 f2 f3 d0 d1 d2 d3
  go_wp2
  refine bodyPost_ret (results_cell_row rfl _ _ (w.heap.size + 1 + 1) 29 #[vI vU (wd Z 0),vI vU (wd Z 1),vI vU (wd Z 2),vI vU (wd Z 3)] (0,0) _ rfl (blk4 (put4 hR fun j => .int .u64 (wd (Z) j))) Tryz.underlying29 rfl (by kernel_rfl)) rfl ⟨rfl,zaw hbel (by omega) _ _ _ _⟩
theorem pN_is (w : World) : Calls Tryz.prog 99 #[] w fun e w' => e = .returned (nv Pt.nn) ∧ Ext w w':=by
 obtain ⟨l0,l1,l2,l3⟩:=nn_words
 unfold nv nc
 rw [l0,l1,l2,l3]
 clear l0 l1 l2 l3
 go_enter Tryz.func99,Tryz.ntmps99
 go_wp2
 exact bodyPost_ret (results_cell_row rfl _ _ w.heap.size 29 #[vI vU 17562291160714782033,vI vU 13611842547513532036,vI vU 18446744073709551615,vI vU 18446744069414584320] (0,0) _ rfl (heap_alloc_last w _) Tryz.underlying29 rfl (by kernel_rfl)) rfl ⟨rfl,(Below.refl _ _).alloc (Nat.le_refl _) _⟩
theorem nn_odd : Pt.nn % 2 = 1 ∧ 2 < Pt.nn:=by decide +kernel
/-! ### digests -/
def dgL (bs : List Nat) (j : Nat) : Nat:=dByte (shaSt (fun i => bs.getD i 0) bs.length) j
theorem dgL_lt (bs : List Nat) (j : Nat) : dgL bs j < 256:=Nat.mod_lt _ (by decide)
theorem src_bs {w : World} {A : Option Addr} {bs : List Nat} (h : Bs w A bs) : Src w A bs.length (fun j => bs.getD j 0) w.heap.size :=
 h.2.imp id fun ⟨b,o,e,hb,hc⟩ => ⟨b,o,e,hb,by omega,hc⟩
/-! ### signatures -/
theorem on_of {X Y : Nat} (h : onB X Y false = true) : Pt.E256.on (some (Pt.F X,Pt.F Y)):=by
 have h1:=(onB_iff X Y false).1 h
 unfold Pt.isOn at h1
 rw [if_neg (by decide)] at h1
 exact h1.2.2
def vfL (X Y : Nat) (f : Bool) (y : Nat → Nat) (R S : Nat) : Bool:=if h : onB X Y false = true then !f && Pt.verB ⟨_,on_of h⟩ (num32 y) R S else false
theorem vfL_off {X Y : Nat} {f : Bool} (h : onB X Y f = false) (y : Nat → Nat) (R S : Nat) : vfL X Y f y R S = false:=by
 unfold vfL
 split
 ·
  rename_i h1
  cases f with
  | true => rfl
  | false => rw [h] at h1; cases h1
 ·
  rfl
theorem vfL_on (p : Pt.Q) (y : Nat → Nat) (R S : Nat) : vfL (Pt.pX p.1) (Pt.pY p.1) (Pt.pFar p.1) y R S = Pt.verB p (num32 y) R S:=by
 have hon:=onB_of p
 cases hf : Pt.pFar p.1 with
 | true =>
  have e : Pt.verB p (num32 y) R S = false:=by unfold Pt.verB; rw [hf]; rfl
  rw [e]
  unfold vfL
  split <;> rfl
 | false =>
  rw [hf] at hon
  unfold vfL
  rw [dif_pos hon,Bool.not_false,Bool.true_and]
  congr 1
  apply Subtype.ext
  refine Pt.p_inj ?_ ?_ ?_
  ·
   exact Nat.mod_eq_of_lt (Pt.pX_lt p.1)
  ·
   exact Nat.mod_eq_of_lt (Pt.pY_lt p.1)
  ·
   rw [hf]; rfl
def lowL : Low where
 dg:=dgL
 dgb:=dgL_lt
 vf:=vfL
structure CodeL : Prop where
 sum : ∀ A m c bs w,KT w → m = bs.length → m ≤ c → m ≤ 100000 → Bs w A bs → Calls Tryz.prog 27 #[.slice A m c] w fun e w' => e = .returned (dgv (dgL bs)) ∧ Ext w w'
 ver : ∀ X Y f y R S w,X < top → Y < top → R < top → S < top → (∀ j,y j < 256) → Calls Tryz.prog 43 #[qv X Y f,dgv y,gv R S] w fun e w' => e = .returned (.bool (vfL X Y f y R S)) ∧ Ext w w'
 parse_odd : ∀ A m c w,m ≠ 64 → Calls Tryz.prog 39 #[.slice A m c] w fun e w' => e = .returned (.tuple #[gv 0 0,.iface 37 (.int .i64 2)]) ∧ Ext w w'
 parse_64 : ∀ A m c bs w,m = bs.length → m = 64 → m ≤ c → Bs w A bs → Calls Tryz.prog 39 #[.slice A m c] w fun e w' => e = .returned (.tuple #[gv (sigR bs) (sigS bs),.nilIface]) ∧ Ext w w'
theorem rsig_bytes (X Y : Nat) (w : World) :
  Calls Tryz.prog 55 #[gv X Y] w fun e w' => ∃ g cap,e = .returned (.slice (some ⟨g,0,none⟩) 64 cap) ∧ w.heap.size ≤ g ∧ Own w' w.heap.size 5 (.slice (some ⟨g,0,none⟩) 64 cap) 64 (ptB X Y) ∧ Below w.heap.size w w':=by
 obtain ⟨i8,hi8,hz0,hz1,hz2⟩:=info_parts infoByte
 have HI:=veil (And.intro hi8 (And.intro hz0 (And.intro hz1 hz2)))
 clear hi8 hz0 hz1 hz2
 unfold gv gc
 have hA : (w.alloc (.cells #[vI vU (wd X 0),vI vU (wd X 1),vI vU (wd X 2),vI vU (wd X 3),vI vU (wd Y 0),vI vU (wd Y 1),vI vU (wd Y 2),vI vU (wd Y 3)] 46)).heap[w.heap.size]? = some (.cells #[vI vU (wd X 0),vI vU (wd X 1),vI vU (wd X 2),vI vU (wd X 3),vI vU (wd Y 0),vI vU (wd Y 1),vI vU (wd Y 2),vI vU (wd Y 3)] 46 (0,0)):=zab _ _
 have hB : Below w.heap.size w (w.alloc (.cells #[vI vU (wd X 0),vI vU (wd X 1),vI vU (wd X 2),vI vU (wd X 3),vI vU (wd Y 0),vI vU (wd Y 1),vI vU (wd Y 2),vI vU (wd Y 3)] 46)):=(Below.refl _ _).alloc (Nat.le_refl _) _
 go_enter Tryz.func55,Tryz.ntmps55
 go_upto_region 1 with (fail)
 generalize w.alloc (.cells #[vI vU (wd X 0),vI vU (wd X 1),vI vU (wd X 2),vI vU (wd X 3),vI vU (wd Y 0),vI vU (wd Y 1),vI vU (wd Y 2),vI vU (wd Y 3)] 46) = wz at *
 have x0 : wz.cell? ⟨w.heap.size,0,none⟩ = some (vI vU (wd X 0)):=(cell_of_row wz w.heap.size 0 _ _ _ hA).trans rfl
 have x1 : wz.cell? ⟨w.heap.size,1,none⟩ = some (vI vU (wd X 1)):=(cell_of_row wz w.heap.size 1 _ _ _ hA).trans rfl
 have x2 : wz.cell? ⟨w.heap.size,2,none⟩ = some (vI vU (wd X 2)):=(cell_of_row wz w.heap.size 2 _ _ _ hA).trans rfl
 have x3 : wz.cell? ⟨w.heap.size,3,none⟩ = some (vI vU (wd X 3)):=(cell_of_row wz w.heap.size 3 _ _ _ hA).trans rfl
 have y0 : wz.cell? ⟨w.heap.size,4,none⟩ = some (vI vU (wd Y 0)):=(cell_of_row wz w.heap.size 4 _ _ _ hA).trans rfl
 have y1 : wz.cell? ⟨w.heap.size,5,none⟩ = some (vI vU (wd Y 1)):=(cell_of_row wz w.heap.size 5 _ _ _ hA).trans rfl
 have y2 : wz.cell? ⟨w.heap.size,6,none⟩ = some (vI vU (wd Y 2)):=(cell_of_row wz w.heap.size 6 _ _ _ hA).trans rfl
 have y3 : wz.cell? ⟨w.heap.size,7,none⟩ = some (vI vU (wd Y 3)):=(cell_of_row wz w.heap.size 7 _ _ _ hA).trans rfl
 have lz:=(Array.getElem?_eq_some_iff.1 hA).1
 have H1:=veil (fun W => rbytes_own X W)
 have H2:=veil (fun W => rbytes_own Y W)
 clear hA
 go_region_held3 (fun w' => (∀ b o,b < wz.heap.size → w'.cell? ⟨b,o,none⟩ = wz.cell? ⟨b,o,none⟩) ∧ Below wz.heap.size wz w')
  (first
   | with_reducible assumption
   | with_reducible exact keep_drew _
   | exact hS3
   | with_reducible exact keep_old (by assumption) (by assumption)
   | fail)
  (first
   | (go_at_call 108; first
     | ((with_reducible refine (H1.out _).mono ?_); rintro e w1 ⟨g1,c1,rfl,hc1,hg1,ho1,hb1⟩)
     | ((with_reducible refine (H2.out _).mono ?_); rintro e w2 ⟨g2,c2,rfl,hc2,hg2,ho2,hb2⟩))
   | ((with_reducible refine at_slotR 9 ?_); refine zdq _ rfl _ _ 24 rfl wz.heap.size 5 i8 (.int .u8 0) 1 Tryz.underlying24 HI.out.1 HI.out.2.1 HI.out.2.2.1 HI.out.2.2.2 rfl (.slice (some ⟨g1,0,none⟩) 32 c1) 32 _ rfl (ho1.below hb2 (Nat.le_refl _)) (some ⟨g2,0,none⟩) 32 c2 rfl _ (from_own ho2) (fun _ => rfl) (by unfold maxLen; omega) (by omega) (Nat.le_trans hb1.size hb2.size) ?_; intro v3 w3 hO3 hg3 _ _; have hX:=keep_old hb2 (keep_old hb1 (keep_drew wz)); have hb3 : Below wz.heap.size wz w3:=hX.2.grown hg3 hX.2.size (fun k e => (ho1.lt e).1); have hS3:=And.intro (fun b o (h : b < wz.heap.size) => hb3.cell (p:=⟨b,o,none⟩) h) hb3; obtain ⟨g3,c3,rfl,-,hg3',-⟩:=hO3.pre (by omega)))
 rename (_ ∧ Below wz.heap.size wz _) => hH
 have hfin : Own w3 w.heap.size 5 (.slice (some ⟨g3,0,none⟩) 64 c3) 64 (ptB X Y):=hO3.base_le hB.size
 clear x0 x1 x2 x3 y0 y1 y2 y3 hO3
 go_wp2
 go_ret
 exact ⟨g3,c3,rfl,Nat.le_trans hB.size hg3',hfin,hB.trans (hH.2.mono hB.size)⟩
theorem texts_len {bs : List Nat} {many : Nat} {l : List (List Nat)} (h : textsB bs many = some l) {i : Nat} (hi : i < l.length) : (l.getD i []).length ≤ 65535:=by
 unfold textsB at h
 cases hg : getFs bs with
 | none => rw [hg] at h; cases h
 | some fs =>
  rw [hg] at h
  simp only at h
  split at h
  ·
   injection h with h
   subst h
   rw [zck] at hi
   rw [zbw]
   exact (mayFs_ok (zgz hg).2 hi).2.2.1
  ·
   cases h
theorem texts_parts {bs : List Nat} {l : List (List Nat)} (h : textsB bs 2 = some l) : partsB bs = if (l.getD 1 []).length = 64 then some (l.getD 0 [],sigR (l.getD 1 []),sigS (l.getD 1 [])) else none:=by
 unfold textsB at h
 unfold partsB
 cases hg : getFs bs with
 | none => rw [hg] at h; cases h
 | some fs =>
  rw [hg] at h
  simp only at h ⊢
  split at h
  ·
   rename_i hk
   injection h with h
   subst h
   simp only [zbw]
   by_cases hq : (bsF fs 1).length = 64
   ·
    rw [if_pos hq,if_pos]
    exact ⟨hk.1,hk.2 0 (by decide),hk.2 1 (by decide),hq⟩
   ·
    rw [if_neg hq,if_neg]
    exact fun hn => hq hn.2.2.2
  ·
   cases h
theorem texts_parts_none {bs : List Nat} (h : textsB bs 2 = none) : partsB bs = none:=by
 unfold textsB at h
 unfold partsB
 cases hg : getFs bs with
 | none => rfl
 | some fs =>
  rw [hg] at h
  simp only at h ⊢
  split at h
  ·
   cases h
  ·
   rename_i hn
   rw [if_neg]
   refine fun hk => hn ⟨hk.1,fun i hi => ?_⟩
   match i,hi with
   | 0,_ => exact hk.2.1
   | 1,_ => exact hk.2.2.1
def RvN (n : Nat) (w : World) (X : Array Value) (r : Rc) : Prop:=WfC r ∧ ∃ A c,X = rcC r (.slice A r.bs.length c) ∧ r.bs.length ≤ c ∧ Bs w A r.bs ∧ NewB n A r.bs
theorem RvN.rv {n : Nat} {w : World} {X : Array Value} {r : Rc} (h : RvN n w X r) : Rv17 w X r:=by
 obtain ⟨h0,A,c,e,hc,hB,_⟩:=h
 exact ⟨h0,A,c,e,hc,hB⟩
theorem RvN.ext {n : Nat} {w w' : World} {X : Array Value} {r : Rc} (h : RvN n w X r) (k : Ext w w') : RvN n w' X r:=by
 obtain ⟨h0,A,c,e,hc,hB,hN⟩:=h
 exact ⟨h0,A,c,e,hc,hB.ext k,hN⟩
theorem NewB.le {n m : Nat} {A : Option Addr} {bs : List Nat} (h : NewB n A bs) (k : m ≤ n) : NewB m A bs:=h.imp id fun h b o e => Nat.le_trans k (h b o e)
theorem RvN.le {n m : Nat} {w : World} {X : Array Value} {r : Rc} (h : RvN n w X r) (k : m ≤ n) : RvN m w X r:=by
 obtain ⟨h0,A,c,e,hc,hB,hN⟩:=h
 exact ⟨h0,A,c,e,hc,hB,hN.le k⟩
theorem NewB.row {n k : Nat} {A : Option Addr} {bs : List Nat} {W : World} (h : NewB n A bs) (hb : Bs W A bs) (hk : k < n) (c : Array Value) : Bs (W.setRow k c) A bs:=by
 refine ⟨hb.1,?_⟩
 rcases h with h0 | h
 ·
  exact .inl h0
 ·
  refine hb.2.imp id ?_
  rintro ⟨b,o,e,hbl,hc⟩
  have hne : b ≠ k:=by have:=h b o e; omega
  refine ⟨b,o,e,by simpa [World.setRow] using hbl,fun j hj => ?_⟩
  have h1 : (W.setRow k c).cell? ⟨b,o + j,none⟩ = W.cell? ⟨b,o + j,none⟩:=World.cell?_of_block (w:=W) (zaz W c hne)
  exact h1.trans (hc j hj)
theorem RvN.row {n k : Nat} {W : World} {X : Array Value} {r : Rc} (h : RvN n W X r) (hk : k < n) (c : Array Value) : RvN n (W.setRow k c) X r:=by
 obtain ⟨h0,A,c',e,hc,hB,hN⟩:=h
 exact ⟨h0,A,c',e,hc,hN.row hB hk c,hN⟩
def OBodyA17 (n : Nat) (w' : World) (bs : List Nat) (X : Array Value) (ev : Value) : Prop :=
 (unB bs = none ∧ X = RZ ∧ ev = .iface 37 (.int .i64 2)) ∨ (∃ r,unB bs = some r ∧ RvN n w' X r ∧ ev = .nilIface)
def rcT (l : List (List Nat)) : Rc:=⟨ofB (l.getD 0 []),ofB (l.getD 1 []),ofB (l.getD 2 []),ofB (l.getD 3 []),ofB (l.getD 4 []),ofB (l.getD 5 []),ofB (l.getD 6 []),ofB (l.getD 7 []),l.getD 8 [],l.getD 9 []⟩
theorem un_texts_none {bs : List Nat} (h : textsB bs 10 = none) : unB bs = none:=by
 unfold textsB at h
 unfold unB
 cases hg : getFs bs with
 | none => rfl
 | some fs =>
  rw [hg] at h
  simp only at h ⊢
  split at h
  ·
   cases h
  ·
   rename_i hn
   rw [if_neg]
   exact fun hk => hn ⟨hk.1.1,hk.1.2.1⟩
theorem un_yes {bs : List Nat} {l : List (List Nat)} (h : textsB bs 10 = some l) (h1 : ∀ i,i < 8 → 0 ≤ ofB (l.getD i [])) (h2 : (l.getD 8 []).length = 32) (h3 : mayC (rcT l) = true) : unB bs = some (rcT l):=by
 unfold textsB at h
 unfold unB
 cases hg : getFs bs with
 | none => rw [hg] at h; cases h
 | some fs =>
  rw [hg] at h
  simp only at h ⊢
  split at h
  ·
   rename_i hk
   injection h with h
   subst h
   have e : rcT (textsOf fs) = rcOf fs:=by
    unfold rcT rcOf
    simp only [zbw]
   rw [e] at h3 ⊢
   rw [zbw] at h2
   rw [if_pos]
   exact ⟨⟨hk.1,hk.2,fun i hi => by have:=h1 i hi; rwa [zbw] at this,h2⟩,h3⟩
  ·
   cases h
theorem un_no {bs : List Nat} {l : List (List Nat)} (h : textsB bs 10 = some l) (hn : (∀ i,i < 8 → 0 ≤ ofB (l.getD i [])) → (l.getD 8 []).length = 32 → mayC (rcT l) = true → False) : unB bs = none:=by
 unfold textsB at h
 unfold unB
 cases hg : getFs bs with
 | none => rfl
 | some fs =>
  rw [hg] at h
  simp only at h ⊢
  split at h
  ·
   injection h with h
   subst h
   have e : rcT (textsOf fs) = rcOf fs:=by
    unfold rcT rcOf
    simp only [zbw]
   rw [if_neg]
   intro hk
   refine hn (fun i hi => ?_) ?_ ?_
   ·
    rw [zbw]; exact hk.1.2.2.1 i hi
   ·
    rw [zbw]; exact hk.1.2.2.2
   ·
    rw [e]; exact hk.2
  ·
   cases h
theorem row_eight {w : World} {g t : Nat} {f : Nat → Value} (h : w.rowIs g t 8 f) : w.cell? ⟨g,0,none⟩ = some (f 0) ∧ w.cell? ⟨g,1,none⟩ = some (f 1) ∧ w.cell? ⟨g,2,none⟩ = some (f 2) ∧ w.cell? ⟨g,3,none⟩ = some (f 3) ∧ w.cell? ⟨g,4,none⟩ = some (f 4) ∧ w.cell? ⟨g,5,none⟩ = some (f 5) ∧ w.cell? ⟨g,6,none⟩ = some (f 6) ∧ w.cell? ⟨g,7,none⟩ = some (f 7) :=
 ⟨h.cell (by omega),h.cell (by omega),h.cell (by omega),h.cell (by omega),h.cell (by omega),h.cell (by omega),h.cell (by omega),h.cell (by omega)⟩
theorem info1R : (Tryz.prog.info? 5).map (·.size) = some 1:=by kernel_rfl
theorem openBody17_calls (A : Option Addr) (m c : Nat) (bs : List Nat) (hm : m = bs.length) (hmc : m ≤ c) (hle : m ≤ 100000000) (w : World) (hS : Bs w A bs) :
  Calls Tryz.prog 38 #[.slice A m c] w fun e w' => ∃ X ev,e = .returned (.tuple #[.agg X,ev]) ∧ Ext w w' ∧ OBodyA17 w.heap.size w' bs X ev:=by
 have KG:=veil (fun W (hW : Bs W A bs) => cget_calls A m c bs 10 hm hmc hle (by decide) W hW)
 have k2:=neNil2
 have k3:=neNilN
 have HB:=veil hS
 clear hm hmc hS hle
 go_enter Tryz.func38,Tryz.ntmps38
 go_upto_region 1 with (fail)
 obtain ⟨g2,hg2⟩ : ∃ g,g = w.heap.size:=⟨_,rfl⟩
 obtain ⟨w0,hw0⟩ : ∃ W,W = w.alloc (.cells RZ 26):=⟨_,rfl⟩
 have h2:=zab w (.cells RZ 26)
 have hE0:=Ext.alloc w (.cells RZ 26)
 have hs0 : w0.heap.size = g2 + 1:=by rw [hw0,hg2]; simp
 rw [← hw0] at hE0
 rw [← hw0,← hg2] at h2
 have H0:=veil (And.intro hE0 (And.intro h2 (show w.heap.size ≤ g2 by omega)))
 have HZ:=veil hs0
 unfold RZ at hw0
 rw [← hw0,← hg2]
 clear hw0 hg2 h2 hE0 hs0
 go_upto_region 2 with (go_at_call 37; refine (KG.out w0 (HB.out.ext H0.out.1)).mono ?_; rintro e w1 ⟨x,ev,rfl,hE1,hA⟩)
 have H1:=veil (And.intro (H0.out.1.trans hE1) (And.intro (hE1.block H0.out.2.1) H0.out.2.2))
 clear hE1 H0 KG
 rcases hA with ⟨hn,⟨A2,c2,rfl⟩,rfl⟩ | ⟨l,hs,hl5,hV,rfl⟩
 ·
  have hr:=un_texts_none hn
  clear hn
  go_wp2_with ((with_reducible refine zah ?_); refine wpList_store_row rfl 26 _ _ rfl g2 RZ rfl rfl 26 _ H1.out.2.1 iRZ rfl zbm ?_)
  refine bodyPost_ret (zby rfl _ _ g2 26 RZ (0,0) _ rfl (setRow_heap w1 g2 _ RZ 26 (0,0) H1.out.2.1) Tryz.underlying26 rfl iRZ) rfl ⟨_,_,rfl,zak H1.out.1 H1.out.2.2 _,.inl ⟨hr,rfl,rfl⟩⟩
 ·
  have hlen9:=texts_len hs (i:=9) (by omega)
  have HT9:=veil hlen9
  clear hlen9
  obtain ⟨_,AL,cl,rfl,hcl,hx⟩:=hV
  obtain ⟨n,hn⟩ : ∃ n,n = l.length:=⟨_,rfl⟩
  rw [← hn] at hx hcl hl5 ⊢
  subst hl5
  rw [HZ.out] at hx
  have HX:=veil (And.intro (hx.resolve_left (by decide)) (And.intro hn hs))
  have hr6 : (w1.alloc (.cells #[.int .i64 0,.int .i64 0,.int .i64 0,.int .i64 0,.int .i64 0,.int .i64 0,.int .i64 0,.int .i64 0] 63)).rowIs w1.heap.size 63 8 (fun _ => .int .i64 0):=World.rowIs_alloc w1 _ _ _ (fun i hi => by
   have hi : i < 8:=hi
   match i,hi with
   | 0,_ | 1,_ | 2,_ | 3,_ | 4,_ | 5,_ | 6,_ | 7,_ => rfl)
  have hE2:=Ext.alloc w1 (.cells #[.int .i64 0,.int .i64 0,.int .i64 0,.int .i64 0,.int .i64 0,.int .i64 0,.int .i64 0,.int .i64 0] 63)
  have H2:=veil (And.intro hr6 hE2)
  clear hs hx hn hcl hr6 hE2
  go_upto_region 5 with (fail)
  obtain ⟨g,hg⟩ : ∃ g,g = w1.heap.size:=⟨_,rfl⟩
  generalize w1.alloc (.cells #[.int .i64 0,.int .i64 0,.int .i64 0,.int .i64 0,.int .i64 0,.int .i64 0,.int .i64 0,.int .i64 0] 63) = w2 at *
  rw [← hg] at H2 ⊢
  have HG:=veil (show w1.heap.size ≤ g by omega)
  clear hg
  go_wp2
  go_loopw [5,7,20] (fun s _ v wr => ∃ i : Nat,i ≤ 8 ∧ s = .nilIface ∧ v = .int .i64 (i : Int) ∧ wr.rowIs g 63 8 (fun j => if j < i then .int .i64 (ofB (l.getD j [])) else .int .i64 0) ∧ (∀ j,j < i → 0 ≤ ofB (l.getD j [])) ∧ Ext w1 wr)
   (fun _ _ v _ => 8 - (intOf v).toNat)
  case atStart => exact ⟨0,by omega,rfl,rfl,H2.out.1.congr (fun j hj => by rw [if_neg (by omega)]),fun j hj => by omega,H2.out.2⟩
  case round =>
   obtain ⟨i,hi,rfl,rfl,hp,hall,hE⟩:=hrel
   by_cases hlt : i < 8
   ·
    have hii : (i : Int) < 8:=by omega
    have hi10 : (i : Int) < 10:=by omega
    obtain ⟨b,o,hAL,hb,_,hcl⟩:=HX.out.1
    obtain ⟨A',k',h1,h3,h4,_⟩:=hcl i (by have:=HX.out.2.1; omega)
    have c0:=(hE.cell hb).trans h1
    have hB:=h4.ext hE
    obtain ⟨L,hL⟩ : ∃ L,L = (l.getD i []).length:=⟨_,rfl⟩
    obtain ⟨N,hN⟩ : ∃ N,N = ofB (l.getD i []):=⟨_,rfl⟩
    rw [← hL] at c0 h3
    subst hAL
    by_cases gN : 0 ≤ N
    ·
     have KO:=veil (of_yes hL h3 hB (by rw [← hN]; exact gN))
     rw [← hN] at KO
     have HS:=veil (And.intro hp (And.intro hall (And.intro hE (And.intro hN gN))))
     clear h1 h3 h4 hB hp hall hE hcl hL hN gN
     go_upto_region 9 with (go_at_call 73; refine KO.out.mono ?_; rintro e w3 ⟨rfl,hE3⟩; have hp3:=veil (zad HS.out.1 hE3 HS.out.1.lt); have c2:=hp3.out.cell hlt; have f2:=hp3.out.frozen i)
     clear c0 c2 f2
     go_wp2
     go_roundw
     case rel =>
      refine ⟨i + 1,by omega,rfl,by go_num,(hp3.out.set i _).congr (fun j hj => ?_),fun j hj => ?_,zae (HS.out.2.2.1.trans hE3) HG.out _⟩
      ·
       by_cases e : j = i
       ·
        subst e
        rw [if_pos rfl,if_pos (by omega),HS.out.2.2.2.1]
       ·
        rw [if_neg e]
        by_cases e2 : j < i
        ·
         rw [if_pos e2,if_pos (by omega)]
        ·
         rw [if_neg e2,if_neg (by omega)]
      ·
       by_cases e : j = i
       ·
        subst e
        rw [← HS.out.2.2.2.1]
        exact HS.out.2.2.2.2
       ·
        exact HS.out.2.1 j (by omega)
     case measure => simp [intOf]; omega
    ·
     have KO:=veil (of_no hL h3 hB (by rw [← hN]; omega))
     have hr : unB bs = none:=un_no HX.out.2.2 fun h _ _ => by
      have:=h i hlt
      omega
     have HS:=veil (And.intro hp (And.intro hr hE))
     clear h1 h3 h4 hB hp hall hE hcl hL hN gN hr
     go_upto_region 9 with (go_at_call 73; refine KO.out.mono ?_; rintro e w3 ⟨rfl,hE3⟩; have hp3:=veil (zad HS.out.1 hE3 HS.out.1.lt); have c2:=hp3.out.cell hlt; have f2:=hp3.out.frozen i)
     have hE4 : Ext w1 (w3.setCell ⟨g,i,none⟩ (.int .i64 0)):=zae (HS.out.2.2.trans hE3) HG.out _
     clear c0 c2 f2
     generalize w3.setCell ⟨g,i,none⟩ (.int .i64 0) = w4 at *
     have H4:=veil (And.intro (H1.out.1.trans hE4) (hE4.block H1.out.2.1))
     clear hE4
     go_wp2_with ((with_reducible refine zah ?_); refine wpList_store_row rfl 26 _ _ rfl g2 RZ rfl rfl 26 _ H4.out.2 iRZ rfl zbm ?_)
     refine bodyPost_ret (zby rfl _ _ g2 26 RZ (0,0) _ rfl (setRow_heap w4 g2 _ RZ 26 (0,0) H4.out.2) Tryz.underlying26 rfl iRZ) rfl ⟨_,_,rfl,zak H4.out.1 H1.out.2.2 _,.inl ⟨HS.out.2.1,rfl,rfl⟩⟩
   ·
    obtain rfl : i = 8:=by omega
    have hd1 : decide (((8 : Nat) : Int) < 8) = false:=by decide
    obtain ⟨b,o,hAL,hb,_,hcl⟩:=HX.out.1
    obtain ⟨A8,k8,h8,h8c,hB8,_⟩:=hcl 8 (by have:=HX.out.2.1; omega)
    obtain ⟨A9,k9,h9,h9c,hB9,hN9⟩:=hcl 9 (by have:=HX.out.2.1; omega)
    have c8:=(hE.cell hb).trans h8
    have c9:=(hE.cell hb).trans h9
    have hyes:=fun h1 h2 => un_yes HX.out.2.2 hall h1 h2
    have hno1 : ¬ (l.getD 8 []).length = 32 → unB bs = none:=fun h1 => un_no HX.out.2.2 fun _ h _ => h1 h
    have hno2 : mayC (rcT l) = false → unB bs = none:=fun h1 => un_no HX.out.2.2 fun _ _ h => by rw [h1] at h; cases h
    have h9l:=HT9.out
    have hrT : rcT l = ⟨ofB (l.getD 0 []),ofB (l.getD 1 []),ofB (l.getD 2 []),ofB (l.getD 3 []),ofB (l.getD 4 []),ofB (l.getD 5 []),ofB (l.getD 6 []),ofB (l.getD 7 []),l.getD 8 [],l.getD 9 []⟩:=rfl
    obtain ⟨c0,c1,c2,c3,c4,c5,c6,c7⟩:=row_eight hp
    rw [if_pos (by decide)] at c0 c1 c2 c3 c4 c5 c6 c7
    obtain ⟨x8,hx8⟩ : ∃ x,x = l.getD 8 []:=⟨_,rfl⟩
    obtain ⟨x9,hx9⟩ : ∃ x,x = l.getD 9 []:=⟨_,rfl⟩
    obtain ⟨N0,hN0⟩ : ∃ N,N = ofB (l.getD 0 []):=⟨_,rfl⟩
    obtain ⟨N1,hN1⟩ : ∃ N,N = ofB (l.getD 1 []):=⟨_,rfl⟩
    obtain ⟨N2,hN2⟩ : ∃ N,N = ofB (l.getD 2 []):=⟨_,rfl⟩
    obtain ⟨N3,hN3⟩ : ∃ N,N = ofB (l.getD 3 []):=⟨_,rfl⟩
    obtain ⟨N4,hN4⟩ : ∃ N,N = ofB (l.getD 4 []):=⟨_,rfl⟩
    obtain ⟨N5,hN5⟩ : ∃ N,N = ofB (l.getD 5 []):=⟨_,rfl⟩
    obtain ⟨N6,hN6⟩ : ∃ N,N = ofB (l.getD 6 []):=⟨_,rfl⟩
    obtain ⟨N7,hN7⟩ : ∃ N,N = ofB (l.getD 7 []):=⟨_,rfl⟩
    rw [← hN0,← hN1,← hN2,← hN3,← hN4,← hN5,← hN6,← hN7,← hx8,← hx9] at hrT
    rw [← hN0] at c0
    rw [← hN1] at c1
    rw [← hN2] at c2
    rw [← hN3] at c3
    rw [← hN4] at c4
    rw [← hN5] at c5
    rw [← hN6] at c6
    rw [← hN7] at c7
    rw [← hx8] at c8 h8c hB8 hyes hno1
    rw [← hx9] at c9 h9c hB9 hN9 h9l
    rw [hrT] at hyes hno2
    obtain ⟨L8,hL8⟩ : ∃ L,L = x8.length:=⟨_,rfl⟩
    obtain ⟨L9,hL9⟩ : ∃ L,L = x9.length:=⟨_,rfl⟩
    rw [← hL8] at c8 h8c hyes hno1
    rw [← hL9] at c9 h9c
    have HR:=veil (And.intro (And.intro hyes (And.intro hno1 hno2)) (And.intro h9l (And.intro hL8 hL9)))
    have HE:=veil (And.intro hE (And.intro hB8 (And.intro hB9 (And.intro hN9 h9c))))
    clear hN0 hN1 hN2 hN3 hN4 hN5 hN6 hN7 hE hyes hno1 hno2 h9l hall hp hcl h8 h9 hx8 hx9 hrT hL8 hL9 hB8 hB9 hN9 h8c h9c
    subst hAL
    go_upto_region 12 with (fail)
    refine zem 8 [(true,[0,1,2,3,4,5,6,7])] (by kernel_rfl) (by kernel_rfl) fun Q' hQ' => ?_
    refine' zca (A:=_) _ rfl (by kernel_rfl) ?_ ?_
    rotate_left
    ·
     intro D hD hN'
     have e8:=hD.cell c8
     have e9:=hD.cell c9
     simp only [pickI,consO,List.getElem?_cons_zero,List.getElem?_cons_succ]
     repeat (go_big_quiet_step (fail))
     exact zcx
    refine zdr hQ' fun w3 hE3 => ?_
    have hcell:=fun (k : Nat) (v : Value) (h : wr.cell? ⟨g,k,none⟩ = some v) => (hE3.cell (World.block_lt_of_cell? wr ⟨g,k,none⟩ h)).trans h
    replace c0:=hcell _ _ c0
    replace c1:=hcell _ _ c1
    replace c2:=hcell _ _ c2
    replace c3:=hcell _ _ c3
    replace c4:=hcell _ _ c4
    replace c5:=hcell _ _ c5
    replace c6:=hcell _ _ c6
    replace c7:=hcell _ _ c7
    have H3:=veil (HE.out.1.trans hE3)
    clear hcell c8 c9 hE3
    go_upto_region 14 with ((with_reducible refine zah ?_); refine wpList_store_row rfl 26 _ _ rfl w3.heap.size (rcC ⟨N0,N1,N2,N3,N4,N5,N6,N7,nilD,x9⟩ (.slice A9 L9 k9)) rfl rfl 26 _ (zab w3 _) (iRc _ _) rfl (zjn _) ?_; rw [World.setRow_alloc_new])
    have hbk:=zab w3 (.cells (rcC ⟨N0,N1,N2,N3,N4,N5,N6,N7,nilD,x9⟩ (.slice A9 L9 k9)) 26)
    have hAl:=Ext.alloc w3 (.cells (rcC ⟨N0,N1,N2,N3,N4,N5,N6,N7,nilD,x9⟩ (.slice A9 L9 k9)) 26)
    obtain ⟨X0,hX0⟩ : ∃ X,X = rcC ⟨N0,N1,N2,N3,N4,N5,N6,N7,nilD,x9⟩ (.slice A9 L9 k9):=⟨_,rfl⟩
    rw [← hX0] at hbk hAl ⊢
    obtain ⟨g10,hg10⟩ : ∃ g,g = w3.heap.size:=⟨_,rfl⟩
    generalize w3.alloc (.cells X0 26) = w4 at *
    rw [← hg10] at hbk ⊢
    have hlo : w1.heap.size ≤ g10:=by rw [hg10]; exact Below.size H3.out
    have h41 : X0.size = 41:=by rw [hX0]; rfl
    have hR0 : w4.rowIs g10 26 41 (cpF X0 x8 0):=⟨X0,hbk,h41,fun j hj => cp_zero (by omega)⟩
    have H4:=veil (And.intro (H3.out.trans hAl) (And.intro hR0 (And.intro hlo hX0)))
    clear hbk hAl hX0 hg10 hlo h41 hR0 c0 c1 c2 c3 c4 c5 c6 c7
    by_cases h32 : L8 = 32
    ·
     subst h32
     obtain ⟨b8,o8,hA8,hb8,_⟩:=HE.out.2.1.cell (j:=0) (by have:=HR.out.2.2.1; omega)
     subst hA8
     have hsrc : ∀ j,j < 32 → w4.cell? ((⟨b8,o8,none⟩ : Addr).add j) = some (.int .u8 (x8.getD j 0 : Nat)):=fun j hj => by
      obtain ⟨b',o',e',hb',hc'⟩:=HE.out.2.1.cell (j:=j) (by have:=HR.out.2.2.1; omega)
      injection e' with e'
      injection e' with e1 e2 _
      subst e1 e2
      rw [Addr.add_mid]
      exact (H4.out.1.cell hb').trans hc'
     have HSr:=veil hsrc
     clear hsrc hb8
     go_upto_region 15 with ((with_reducible refine zaa 65 ?_); refine zec rfl _ _ 24 24 rfl 5 Tryz.underlying24 info1R g10 8 32 32 ⟨b8,o8,none⟩ 32 k8 rfl rfl 26 41 _ H4.out.2.1 32 rfl (fun j => .int .u8 (x8.getD j 0 : Nat)) HSr.out (by decide) (fun _ _ => rfl) ?_; intro w5 hb5 hr5)
     have hE5 : Ext w1 w5:=Below.trans H4.out.1 (hb5.new H4.out.2.2.1 (Below.size H4.out.1))
     have hrow : w5.rowIs g10 26 41 (cpF X0 x8 32):=hr5.congr fun j hj => by
      unfold cpF
      by_cases e : 8 ≤ j ∧ j < 8 + 32
      ·
       rw [if_pos e,if_pos e]
      ·
       rw [if_neg e,if_neg e,if_neg (by omega)]
     obtain ⟨r,hr⟩ : ∃ r : Rc,r = ⟨N0,N1,N2,N3,N4,N5,N6,N7,x8,x9⟩:=⟨_,rfl⟩
     obtain ⟨X,hX⟩ : ∃ X,X = rcC r (.slice A9 L9 k9):=⟨_,rfl⟩
     have h15:=blkOf hrow
     rw [H4.out.2.2.2,cp_done ⟨N0,N1,N2,N3,N4,N5,N6,N7,nilD,x9⟩ r (.slice A9 L9 k9) x8 (by rw [hr]) (by rw [hr]),← hX] at h15
     have hXi : (Tryz.prog.info? 26).map (·.size) = some X.size:=by rw [hX]; exact iRc _ _
     have hXo : X.all (·.oneCell') = true:=by rw [hX]; exact zjn _
     have hXz : RZ.size = X.size:=by rw [hX]; rfl
     have hB9:=HE.out.2.2.1.ext hE5
     have hRn : RvN (g2 + 1) w5 X r:=⟨⟨by rw [hr]; exact HR.out.2.2.1.symm,by rw [hr]; exact HE.out.2.1.1,by rw [hr]; exact hB9.1⟩,A9,k9,by rw [hX,hr]; show rcC _ _ = rcC _ (.slice A9 x9.length k9); rw [← HR.out.2.2.2],by rw [hr]; show x9.length ≤ k9; rw [← HR.out.2.2.2]; exact HE.out.2.2.2.2,by rw [hr]; exact hB9,by rw [hr]; exact HE.out.2.2.2.1⟩
     have hbl : r.bs.length ≤ 1000000000:=by
      rw [hr]
      exact Nat.le_trans HR.out.2.1 (by decide)
     have KM:=veil (may17_calls X r w5 hRn.rv hbl)
     have hy : mayC r = true → unB bs = some r:=by rw [hr]; exact HR.out.1.1 rfl
     have hz : mayC r = false → unB bs = none:=by rw [hr]; exact HR.out.1.2.2
     have HU:=veil (And.intro hy hz)
     have H5:=veil (And.intro (H1.out.1.trans hE5) (And.intro (hE5.block H1.out.2.1) (And.intro h15 (And.intro hRn (And.intro hXi (And.intro hXo hXz))))))
     clear hE5 hrow hr5 hb5 h15 hXi hXo hXz hB9 hRn hbl hy hz hX hr
     cases hmay : mayC r with
     | false =>
      rw [hmay] at KM
      have hr : unB bs = none:=HU.out.2 hmay
      clear hmay
      go_upto_region 16 with (first
       | ((with_reducible refine zaa 70 ?_); refine zbv rfl 26 _ rfl g10 rfl 26 X (0,0) _ H5.out.2.2.1 Tryz.underlying26 rfl H5.out.2.2.2.2.1 ?_)
       | (go_at_call 11; refine KM.out.mono ?_; rintro e w6 ⟨rfl,hE6⟩))
      have h26:=hE6.block H5.out.2.1
      go_wp2_with ((with_reducible refine zah ?_); refine wpList_store_row rfl 26 _ _ rfl g2 RZ rfl rfl 26 _ h26 iRZ rfl zbm ?_)
      refine bodyPost_ret (zby rfl _ _ g2 26 RZ (0,0) _ rfl (setRow_heap w6 g2 _ RZ 26 (0,0) h26) Tryz.underlying26 rfl iRZ) rfl ⟨_,_,rfl,zak (H5.out.1.trans hE6) H1.out.2.2 _,.inl ⟨hr,rfl,rfl⟩⟩
     | true =>
      rw [hmay] at KM
      have hr : unB bs = some r:=HU.out.1 hmay
      clear hmay
      go_upto_region 17 with (first
       | ((with_reducible refine zaa 70 ?_); refine zbv rfl 26 _ rfl g10 rfl 26 X (0,0) _ H5.out.2.2.1 Tryz.underlying26 rfl H5.out.2.2.2.2.1 ?_)
       | (go_at_call 11; refine KM.out.mono ?_; rintro e w6 ⟨rfl,hE6⟩))
      have h26:=hE6.block H5.out.2.1
      have h10:=hE6.block H5.out.2.2.1
      go_wp2_with (first
       | ((with_reducible refine zaa 76 ?_); refine wpList_load_row rfl 26 _ rfl g10 rfl 26 X (0,0) _ h10 Tryz.underlying26 rfl H5.out.2.2.2.2.1 ?_)
       | ((with_reducible refine zah ?_); refine wpList_store_row rfl 26 _ _ rfl g2 X rfl rfl 26 _ h26 H5.out.2.2.2.2.1 H5.out.2.2.2.2.2.2 H5.out.2.2.2.2.2.1 ?_))
      refine bodyPost_ret (zby rfl _ _ g2 26 X (0,0) _ rfl (setRow_heap w6 g2 _ X 26 (0,0) h26) Tryz.underlying26 rfl H5.out.2.2.2.2.1) rfl ⟨_,_,rfl,zak (H5.out.1.trans hE6) H1.out.2.2 _,.inr ⟨r,hr,((H5.out.2.2.2.1.ext hE6).row (Nat.lt_succ_self g2) X).le (by have:=H1.out.2.2; omega),rfl⟩⟩
    ·
     have f1 : ((L8 : Int) != 32) = true:=by simp; omega
     have f2 : ¬ ((L8 : Int) = 32):=by omega
     have HN:=veil (HR.out.1.2.1 h32)
     rcases A8 with _ | ⟨b8,o8,m8⟩
     ·
      have h0 : L8 = 0:=by
       rcases HE.out.2.1.2 with h | ⟨_,_,e,_⟩
       ·
        rw [HR.out.2.2.1]; exact h
       ·
        cases e
      subst h0
      go_upto_region 15 with ((with_reducible refine zaa 65 ?_); refine wpList_copy_nothing rfl _ _ 24 24 rfl 5 Tryz.underlying24 info1R _ _ _ _ _ _ rfl rfl (by simp) ?_)
      have H5:=veil (And.intro (H1.out.1.trans H4.out.1) (H4.out.1.block H1.out.2.1))
      go_wp2_with ((with_reducible refine zah ?_); refine wpList_store_row rfl 26 _ _ rfl g2 RZ rfl rfl 26 _ H5.out.2 iRZ rfl zbm ?_)
      refine bodyPost_ret (zby rfl _ _ g2 26 RZ (0,0) _ rfl (setRow_heap w4 g2 _ RZ 26 (0,0) H5.out.2) Tryz.underlying26 rfl iRZ) rfl ⟨_,_,rfl,zak H5.out.1 H1.out.2.2 _,.inl ⟨HN.out,rfl,rfl⟩⟩
     ·
      have hsrc : ∀ j,j < Nat.min L8 32 → w4.cell? ((⟨b8,o8,m8⟩ : Addr).add j) = some (.int .u8 (x8.getD j 0 : Nat)):=fun j hj => by
       have hj1 : j < L8:=Nat.lt_of_lt_of_le hj (Nat.min_le_left _ _)
       obtain ⟨b',o',e',hb',hc'⟩:=HE.out.2.1.cell (j:=j) (by have:=HR.out.2.2.1; omega)
       injection e' with e'
       injection e' with e1 e2 e3
       subst e1 e2 e3
       rw [Addr.add_mid]
       exact (H4.out.1.cell hb').trans hc'
      have HSr:=veil hsrc
      have hm1 : Nat.min L8 32 ≤ 32:=Nat.min_le_right _ _
      obtain ⟨mm,hmm⟩ : ∃ k,k = Nat.min L8 32:=⟨_,rfl⟩
      rw [← hmm] at HSr hm1
      have HM:=veil hmm
      clear hsrc hmm
      go_upto_region 15 with ((with_reducible refine zaa 65 ?_); refine zec rfl _ _ 24 24 rfl 5 Tryz.underlying24 info1R g10 8 32 32 ⟨b8,o8,m8⟩ L8 k8 rfl rfl 26 41 _ H4.out.2.1 mm HM.out (fun j => .int .u8 (x8.getD j 0 : Nat)) HSr.out (by omega) (fun _ _ => rfl) ?_; intro w5 hb5 hr5)
      have hE5 : Ext w1 w5:=Below.trans H4.out.1 (hb5.new H4.out.2.2.1 (Below.size H4.out.1))
      have H5:=veil (And.intro (H1.out.1.trans hE5) (hE5.block H1.out.2.1))
      clear hb5 hr5 hE5
      go_wp2_with ((with_reducible refine zah ?_); refine wpList_store_row rfl 26 _ _ rfl g2 RZ rfl rfl 26 _ H5.out.2 iRZ rfl zbm ?_)
      refine bodyPost_ret (zby rfl _ _ g2 26 RZ (0,0) _ rfl (setRow_heap w5 g2 _ RZ 26 (0,0) H5.out.2) Tryz.underlying26 rfl iRZ) rfl ⟨_,_,rfl,zak H5.out.1 H1.out.2.2 _,.inl ⟨HN.out,rfl,rfl⟩⟩
theorem made_at17 {P : Program} {o : Oper} {a : Act} {w : World} {ty e : TypeId} {x k : Operand} {g off n cap i : Nat} (ho : o.op = .indexAddr ty x k) (hx : a.eval x = .slice (some ⟨g,off,none⟩) n cap) (hk : a.eval k = .int .i64 (i : Int)) (hi : i < n) (hu : P.underlying ty = some (.slice e)) (hs : (P.info? e).map (·.size) = some 1) : Made P o (.pointer (some ⟨g,off + i,none⟩)) a w:=zbi fun W _ => by
 obtain ⟨inf,h1,h2⟩ : ∃ inf,P.info? e = some inf ∧ inf.size = 1:=by
  cases h : P.info? e with
  | none => simp [h] at hs
  | some inf => exact ⟨inf,rfl,by simpa [h] using hs⟩
 unfold execOp
 simp only [ho,hx,hk]
 simp [Instr.indexAt,asIntOf,run_underlying hu,sizeOf,typeInfo,h1,h2,hi,Result.andThen_ok,Addr.add_mid]
theorem OBodyA17.ext {n : Nat} {w w' : World} {bs : List Nat} {X : Array Value} {ev : Value} (h : OBodyA17 n w bs X ev) (k : Ext w w') : OBodyA17 n w' bs X ev :=
 h.imp id fun ⟨r,h1,h2,h3⟩ => ⟨r,h1,h2.ext k,h3⟩
theorem RvN.chg {n : Nat} {F : Nat → Prop} {w w' : World} {X : Array Value} {r : Rc} (h : RvN n w X r) (k : Chg F w w') (hF : ∀ z,F z → z < n) : RvN n w' X r:=by
 obtain ⟨h0,A,c,e,hc,hB,hN⟩:=h
 exact ⟨h0,A,c,e,hc,hN.chg hB k hF,hN⟩
theorem KT.chg {F : Nat → Prop} {w w' : World} (h : KT w) (k : Chg F w w') (hF : ¬ F 0) : KT w':=h.of_block (k.block 0 h.lt hF) k.size
theorem KT.more {w w' : World} (h : KT w) (k : Ext w w') : KT w':=kt_now h k
theorem zgf {n : Nat} {w : World} {bs : List Nat} {X : Array Value} {ev : Value} (h : OBodyA17 n w bs X ev) : (Tryz.prog.info? 26).map (·.size) = some X.size ∧ RZ.size = X.size ∧ X.all (·.oneCell') = true:=by
 rcases h with ⟨_,rfl,_⟩ | ⟨r,_,hR,_⟩
 ·
  exact ⟨iRZ,rfl,zbm⟩
 ·
  exact ⟨hR.rv.info,hR.rv.size.symm,hR.rv.one⟩
def OpenN17 (n : Nat) (w' : World) (bs : List Nat) (X D G : Array Value) (ev : Value) : Prop :=
 (openR bs = none ∧ X = RZ ∧ D = DZ ∧ G = gc 0 0 ∧ ev = .iface 37 (.int .i64 2)) ∨ (∃ r body x s,openR bs = some (r,body,x,s) ∧ RvN n w' X r ∧ D = dgc (dgL body) ∧ G = gc x s ∧ ev = .nilIface)
theorem OpenN17.all {n : Nat} {w' : World} {bs : List Nat} {X D G : Array Value} {ev : Value} (h : OpenN17 n w' bs X D G ev) : OpenC17 lowL w' bs X D G ev:=by
 rcases h with h | ⟨r,body,x,s,h1,h2,h3⟩
 ·
  exact .inl h
 ·
  exact .inr ⟨r,body,x,s,h1,h2.rv,h3⟩
structure Oq (w w' : World) (g2 g3 g4 : Nat) : Prop where
 ext : Ext w w'
 b2 : w'.heap[g2]? = some (.cells RZ 26 (0,0))
 b3 : w'.heap[g3]? = some (.cells DZ 23 (0,0))
 b4 : w'.heap[g4]? = some (.cells Z8 46 (0,0))
 lo : w.heap.size ≤ g2
 l23 : g2 < g3
 l34 : g3 < g4
theorem Oq.more {w w' w2 : World} {g2 g3 g4 : Nat} (h : Oq w w' g2 g3 g4) (k : Ext w' w2) : Oq w w2 g2 g3 g4:=⟨h.ext.trans k,k.block h.b2,k.block h.b3,k.block h.b4,h.lo,h.l23,h.l34⟩
theorem Oq.fin {w W : World} {g2 g3 g4 : Nat} (h : Oq w W g2 g3 g4) (X D G : Array Value) : Ext w (((W.setRow g2 X).setRow g3 D).setRow g4 G) ∧ (((W.setRow g2 X).setRow g3 D).setRow g4 G).heap[g2]? = some (.cells X 26 (0,0)) ∧
  (((W.setRow g2 X).setRow g3 D).setRow g4 G).heap[g3]? = some (.cells D 23 (0,0)) ∧ (((W.setRow g2 X).setRow g3 D).setRow g4 G).heap[g4]? = some (.cells G 46 (0,0)):=by
 have h23:=h.l23
 have h34:=h.l34
 have h1:=two_rows (T:=X) (G:=D) h.ext h.b2 h.b3 ⟨h.lo,h.l23⟩
 refine ⟨zak h1.1 (by have:=h.lo; omega) G,(zaz _ G (by omega)).trans h1.2.1,(zaz _ G (by omega)).trans h1.2.2,?_⟩
 exact setRow_heap _ _ Z8 G 46 (0,0) (zax D (zax X h.b4 (by omega)) h34)
theorem zfh (C : CodeL) (A : Option Addr) (m c : Nat) (bs : List Nat) (hm : m = bs.length) (hmc : m ≤ c) (hle : m ≤ 100000000) (w : World) (hK : KT w) (hS : Bs w A bs) :
  Calls Tryz.prog 15 #[.slice A m c] w fun e w' => ∃ X D G ev,e = .returned (.tuple #[.agg X,.agg D,.agg G,ev]) ∧ Ext w w' ∧ OpenN17 w.heap.size w' bs X D G ev:=by
 have KG:=veil (fun W (hW : Bs W A bs) => cget_calls A m c bs 2 hm hmc hle (by decide) W hW)
 have k2:=neNil2
 have k3:=neNilN
 have HB:=veil (And.intro hS hK)
 clear hm hmc hle hS hK
 go_enter Tryz.func15,Tryz.ntmps15
 go_upto_region 1 with (fail)
 obtain ⟨g2,hg2⟩ : ∃ g,g = w.heap.size:=⟨_,rfl⟩
 obtain ⟨g3,hg3⟩ : ∃ g,g = w.heap.size + 1:=⟨_,rfl⟩
 obtain ⟨g4,hg4⟩ : ∃ g,g = w.heap.size + 1 + 1:=⟨_,rfl⟩
 obtain ⟨w0,hw0⟩ : ∃ W,W = ((w.alloc (.cells RZ 26)).alloc (.cells DZ 23)).alloc (.cells Z8 46):=⟨_,rfl⟩
 have h3:=zbe w (.cells RZ 26) (.cells DZ 23) (.cells Z8 46)
 have hE0 : Ext w w0:=by rw [hw0]; exact (zey _ _ _).trans (Ext.alloc _ _)
 have hs0 : w0.heap.size = g4 + 1:=by rw [hw0,hg4]; simp only [World.size_alloc]
 rw [← hw0,← hg4,← hg3,← hg2] at h3
 have H0:=veil (show Oq w w0 g2 g3 g4 from ⟨hE0,h3.1,h3.2.1,h3.2.2,by omega,by omega,by omega⟩)
 have n23 : ¬ g3 = g2:=by omega
 have n24 : ¬ g4 = g2:=by omega
 have n34 : ¬ g4 = g3:=by omega
 have HZ:=veil (And.intro hs0 (show w.heap.size ≤ g4 + 1 by omega))
 unfold RZ DZ Z8 at hw0
 rw [← hw0,← hg4,← hg3,← hg2]
 clear hw0 hg4 hg3 hg2 hE0 h3 hs0
 go_upto_region 2 with (go_at_call 37; refine (KG.out w0 (HB.out.1.ext H0.out.ext)).mono ?_; rintro e w1 ⟨x,ev,rfl,hE1,hA⟩)
 have H1:=veil (H0.out.more hE1)
 clear hE1 H0 KG
 rcases hA with ⟨hn,⟨A2,c2,rfl⟩,rfl⟩ | ⟨l,hs,hl2,hV,rfl⟩
 ·
  have hr:=zge (texts_parts_none hn)
  clear hn
  have hF:=H1.out.fin RZ DZ Z8
  have HF:=veil hF
  clear hF
  go_wp2_with (first
   | ((with_reducible refine zah ?_); refine wpList_store_row rfl 26 _ _ rfl g2 RZ rfl rfl 26 _ H1.out.b2 iRZ rfl zbm ?_)
   | ((with_reducible refine zah ?_); refine wpList_store_row rfl 23 _ _ rfl g3 DZ rfl rfl 23 _ (zax RZ H1.out.b3 H1.out.l23) iDZ rfl zcv ?_)
   | ((with_reducible refine zah ?_); refine wpList_store_row rfl 46 _ _ rfl g4 Z8 rfl rfl 46 _ (zax DZ (zax RZ H1.out.b4 (Nat.lt_trans H1.out.l23 H1.out.l34)) H1.out.l34) iZ8 rfl zcu ?_))
  exact bodyPost_ret (zat rfl _ _ g2 g3 g4 26 23 46 RZ DZ Z8 (0,0) (0,0) (0,0) _ _ _ rfl HF.out.2.1 Tryz.underlying26 rfl iRZ rfl HF.out.2.2.1 Tryz.underlying23 rfl iDZ rfl HF.out.2.2.2 Tryz.underlying46 rfl iZ8) rfl ⟨_,_,_,_,rfl,HF.out.1,.inl ⟨hr,rfl,rfl,z8_gc,rfl⟩⟩
 ·
  have hpt:=texts_parts hs
  have hx0:=texts_len hs (i:=0) (by omega)
  obtain ⟨_,AL,cl,rfl,hcl,hx⟩:=hV
  rw [hl2] at hx hcl ⊢
  rw [HZ.out.1] at hx
  obtain ⟨b,o,hAL,hb,hb4,hx⟩:=hx.resolve_left (by decide)
  obtain ⟨A0,k0,c0,hk0,hB0,hN0⟩:=hx 0 (by decide)
  obtain ⟨A1,k1,c1,hk1,hB1,hN1⟩:=hx 1 (by decide)
  obtain ⟨x0,hx0e⟩ : ∃ x,x = l.getD 0 []:=⟨_,rfl⟩
  obtain ⟨x1,hx1e⟩ : ∃ x,x = l.getD 1 []:=⟨_,rfl⟩
  rw [← hx0e,← hx1e] at hpt
  rw [← hx0e] at c0 hk0 hB0 hx0 hN0
  rw [← hx1e] at c1 hk1 hB1
  obtain ⟨L0,hL0⟩ : ∃ L,L = x0.length:=⟨_,rfl⟩
  obtain ⟨L1,hL1⟩ : ∃ L,L = x1.length:=⟨_,rfl⟩
  rw [← hL0] at c0 hk0 hx0
  rw [← hL1] at c1 hk1 hpt
  have HP:=veil hpt
  have HL1:=veil (And.intro hL1 hk1)
  have HL0:=veil (And.intro hL0 (And.intro hk0 (And.intro hx0 (And.intro hN0 hb4))))
  rw [Nat.add_zero] at c0
  have KO:=veil (fun W (hW : Bs W A0 x0) => openBody17_calls A0 L0 k0 x0 hL0 hk0 (by omega) W hW)
  have HB0:=veil (And.intro hB0 hB1)
  subst hAL
  clear hx hs hx0e hx1e hpt hL0 hk0 hx0 hN0 hN1 hb4 hB0 hB1 hL1 hk1
  go_upto_region 5 with (first
   | (go_at_call 38; refine (KO.out _ HB0.out.1).mono ?_; rintro e w2 ⟨X,ev,rfl,hE2,hA⟩)
   | ((with_reducible refine zah ?_); refine wpList_store_row rfl 26 _ _ rfl w2.heap.size X rfl rfl 26 _ (zab w2 _) (zgf hA).1 (zgf hA).2.1 (zgf hA).2.2 ?_; rw [World.setRow_alloc_new]))
  have hSZ:=zgf hA
  have hAl:=Ext.alloc w2 (.cells X 26)
  have hE3:=hE2.trans hAl
  have h8:=zab w2 (.cells X 26)
  have hA3:=hA.ext hAl
  have hg48 : g4 < w1.heap.size ∧ w1.heap.size ≤ w2.heap.size:=⟨(Array.getElem?_eq_some_iff.1 H1.out.b4).1,Below.size hE2⟩
  obtain ⟨g8,hg8⟩ : ∃ g,g = w2.heap.size:=⟨_,rfl⟩
  rw [← hg8] at h8 hg48 ⊢
  generalize w2.alloc (.cells X 26) = w3 at *
  replace c0:=(hE3.cell hb).trans c0
  replace c1:=(hE3.cell hb).trans c1
  have H3:=veil (And.intro (H1.out.more hE3) (And.intro h8 (And.intro hE3 hg48)))
  have HX:=veil hSZ
  have HA:=veil hA3
  clear hSZ hAl hE3 h8 hA3 hA hg8 hg48 hE2 KO
  rcases HA.out with ⟨hun,rfl,rfl⟩ | ⟨r,hun,hR,rfl⟩
  ·
   have hr : openR bs = none:=by
    have h:=HP.out
    split at h
    ·
     rw [openR_un h,hun]; rfl
    ·
     exact zge h
   have HR:=veil hr
   have HF:=veil (H3.out.1.fin RZ DZ Z8)
   clear hr hun HP c0 c1
   go_wp2_with (first
    | ((with_reducible refine zah ?_); refine wpList_store_row rfl 26 _ _ rfl g2 RZ rfl rfl 26 _ H3.out.1.b2 iRZ rfl zbm ?_)
    | ((with_reducible refine zah ?_); refine wpList_store_row rfl 23 _ _ rfl g3 DZ rfl rfl 23 _ (zax RZ H3.out.1.b3 H3.out.1.l23) iDZ rfl zcv ?_)
    | ((with_reducible refine zah ?_); refine wpList_store_row rfl 46 _ _ rfl g4 Z8 rfl rfl 46 _ (zax DZ (zax RZ H3.out.1.b4 (Nat.lt_trans H3.out.1.l23 H3.out.1.l34)) H3.out.1.l34) iZ8 rfl zcu ?_))
   exact bodyPost_ret (zat rfl _ _ g2 g3 g4 26 23 46 RZ DZ Z8 (0,0) (0,0) (0,0) _ _ _ rfl HF.out.2.1 Tryz.underlying26 rfl iRZ rfl HF.out.2.2.1 Tryz.underlying23 rfl iDZ rfl HF.out.2.2.2 Tryz.underlying46 rfl iZ8) rfl ⟨_,_,_,_,rfl,HF.out.1,.inl ⟨HR.out,rfl,rfl,z8_gc,rfl⟩⟩
  ·
   have HU:=veil (And.intro hun hR)
   clear hun hR HA
   by_cases h64 : L1 = 64
   rotate_left
   ·
    have KP:=veil (fun W => C.parse_odd A1 L1 k1 W h64)
    have hp:=HP.out
    rw [if_neg h64] at hp
    have HR:=veil (zge hp)
    clear hp h64 HP HL1 c0
    go_upto_region 8 with (first
     | (go_at_call 39; refine (KP.out _).mono ?_; rintro e w4 ⟨rfl,hE4⟩)
     | ((with_reducible refine zah ?_); refine wpList_store_row rfl 46 _ _ rfl w4.heap.size (gc 0 0) rfl rfl 46 _ (zab w4 _) (iSg _ _) rfl (zda _ _) ?_; rw [World.setRow_alloc_new]))
    have hE5:=hE4.trans (Ext.alloc w4 (.cells (gc 0 0) 46))
    generalize w4.alloc (.cells (gc 0 0) 46) = w5 at *
    have H5:=veil (H3.out.1.more hE5)
    have HF:=veil (H5.out.fin RZ DZ Z8)
    clear hE5 hE4 c1
    go_wp2_with (first
     | ((with_reducible refine zah ?_); refine wpList_store_row rfl 26 _ _ rfl g2 RZ rfl rfl 26 _ H5.out.b2 iRZ rfl zbm ?_)
     | ((with_reducible refine zah ?_); refine wpList_store_row rfl 23 _ _ rfl g3 DZ rfl rfl 23 _ (zax RZ H5.out.b3 H5.out.l23) iDZ rfl zcv ?_)
     | ((with_reducible refine zah ?_); refine wpList_store_row rfl 46 _ _ rfl g4 Z8 rfl rfl 46 _ (zax DZ (zax RZ H5.out.b4 (Nat.lt_trans H5.out.l23 H5.out.l34)) H5.out.l34) iZ8 rfl zcu ?_))
    exact bodyPost_ret (zat rfl _ _ g2 g3 g4 26 23 46 RZ DZ Z8 (0,0) (0,0) (0,0) _ _ _ rfl HF.out.2.1 Tryz.underlying26 rfl iRZ rfl HF.out.2.2.1 Tryz.underlying23 rfl iDZ rfl HF.out.2.2.2 Tryz.underlying46 rfl iZ8) rfl ⟨_,_,_,_,rfl,HF.out.1,.inl ⟨HR.out,rfl,rfl,z8_gc,rfl⟩⟩
   ·
    have KP:=veil (fun W (hW : Bs W A1 x1) => C.parse_64 A1 L1 k1 x1 W HL1.out.1 h64 HL1.out.2 hW)
    have hp:=HP.out
    rw [if_pos h64] at hp
    have hr : openR bs = some (r,x0,sigR x1,sigS x1):=by rw [openR_un hp,HU.out.1]; rfl
    have HR:=veil hr
    clear hp hr h64 HP HL1
    have hb3 : b < w3.heap.size:=Nat.lt_of_lt_of_le hb (Below.size H3.out.2.2.1)
    go_upto_region 8 with (first
     | (go_at_call 39; refine (KP.out _ (HB0.out.2.ext H3.out.2.2.1)).mono ?_; rintro e w4 ⟨rfl,hE4⟩)
     | ((with_reducible refine zah ?_); refine wpList_store_row rfl 46 _ _ rfl w4.heap.size (gc (sigR x1) (sigS x1)) rfl rfl 46 _ (zab w4 _) (iSg _ _) rfl (zda _ _) ?_; rw [World.setRow_alloc_new]))
    have hE5:=hE4.trans (Ext.alloc w4 (.cells (gc (sigR x1) (sigS x1)) 46))
    have h9:=zab w4 (.cells (gc (sigR x1) (sigS x1)) 46)
    have hg9 : g4 < w4.heap.size:=by have h1:=Below.size hE4; have h2:=H3.out.2.2.2; have h3:=(Array.getElem?_eq_some_iff.1 H3.out.2.1).1; omega
    generalize w4.alloc (.cells (gc (sigR x1) (sigS x1)) 46) = w5 at *
    generalize w4.heap.size = g9 at *
    have H7:=veil (H3.out.1.more hE5)
    have HW:=veil (And.intro (hE5.block H3.out.2.1) (And.intro h9 (And.intro ((hE5.cell hb3).trans c0) (And.intro (Nat.lt_of_lt_of_le hb3 (Below.size hE5)) (And.intro (HU.out.2.ext hE5) (H3.out.2.2.1.trans hE5))))))
    have hkt : KT w5:=kt_now HB.out.2 ((H1.out.ext.trans H3.out.2.2.1).trans hE5)
    have HKT:=veil hkt
    have HN:=veil (And.intro hg9 (And.intro H3.out.2.2.2.1 H3.out.2.2.2.2))
    have o1:=H7.out.lo
    have o2:=H7.out.l23
    have o3:=H7.out.l34
    have o4 : g4 < g9:=hg9
    have o5 : g4 < g8:=by have:=H3.out.2.2.2; omega
    have o6 : g4 < b:=by have:=HL0.out.2.2.2.2; omega
    have o7 : 0 < g2:=by have h:=HB.out.2.lt; omega
    have HO:=veil (And.intro o1 (And.intro o2 (And.intro o3 (And.intro o4 (And.intro o5 (And.intro o6 o7))))))
    clear hkt hE5 h9 hE4 c0 c1 KP hg9 o1 o2 o3 o4 o5 o6 o7
    go_upto_region 10 with (fail)
    refine zff [⟨[],.fix (.agg X)⟩,⟨[],.fix (.slice (some ⟨b,o,none⟩) 2 cl)⟩,⟨[1],.fix (.pointer (some ⟨b,o + 0,none⟩))⟩,⟨[2],.fix (.slice A0 L0 k0)⟩,⟨[3],.fix (dgv (dgL x0))⟩,⟨[],.fix (.agg (gc (sigR x1) (sigS x1)))⟩,⟨[0],.old g2 26 RZ fun _ => X⟩,⟨[4],.old g3 23 DZ fun _ => dgc (dgL x0)⟩,⟨[5],.old g4 46 Z8 fun _ => gc (sigR x1) (sigS x1)⟩,⟨[],.fix .nilIface⟩] (by kernel_rfl) (by kernel_rfl) (by unfold apartL; simp [oldL,n23,n24,n34]) (by unfold apartL; simp [stoL]) ?_ ?_
    ·
     obtain ⟨o1,o2,o3,o4,o5,o6,o7⟩:=HO.out
     refine ⟨?_,?_,?_,?_,?_,?_,?_,?_,?_,?_,trivial⟩
     ·
      intro vs W hC _
      with_reducible refine zce (ty:=26) (x:=.tmp 8) (g:=g8) (t:=26) (C:=X) (fr:=(0,0)) ?_ ?_ ?_ Tryz.underlying26 ?_ ?_
      ·
       rfl
      ·
       exact (zan (by kernel_rfl)).trans rfl
      ·
       exact hC.at HW.out.1 (fun h => by have h:=zay h; simp only [oldL,List.map_cons,List.map_nil,List.mem_cons,Option.some.injEq,List.not_mem_nil,reduceCtorEq,false_or,or_false] at h; omega)
      ·
       rfl
      ·
       exact HX.out.1
     ·
      intro vs W _ _
      with_reducible refine zaq (x:=.tmp 6) ?_ ?_
      ·
       exact .inl rfl
      ·
       exact (zan (by kernel_rfl)).trans rfl
     ·
      intro vs W _ hR
      with_reducible refine made_at17 (ty:=56) (e:=24) (x:=.tmp 48) (k:=.const (.int .i64 0)) (g:=b) (off:=o) (n:=2) (cap:=cl) (i:=0) ?_ ?_ ?_ ?_ Tryz.underlying56 ?_
      ·
       rfl
      ·
       exact (ev_at (i:=1) (by kernel_rfl) rfl rfl).trans (hR 1 (.head _))
      ·
       rfl
      ·
       decide
      ·
       kernel_rfl
     ·
      intro vs W hC hR
      with_reducible refine made_cell (ty:=24) (x:=.tmp 49) (p:=⟨b,o + 0,none⟩) ?_ ?_ ?_ ?_ ?_
      ·
       rfl
      ·
       exact (ev_at (i:=2) (by kernel_rfl) rfl rfl).trans (hR 2 (.head _))
      ·
       exact (hC.cell HW.out.2.2.2.1 (fun h => by have h:=zay h; simp only [oldL,List.map_cons,List.map_nil,List.mem_cons,Option.some.injEq,List.not_mem_nil,reduceCtorEq,false_or,or_false] at h; omega)).trans HW.out.2.2.1
      ·
       exact Nat.lt_of_lt_of_le HW.out.2.2.2.1 hC.size
      ·
       intro W; kernel_rfl
     ·
      intro vs W hC hR
      with_reducible refine zbc (xs:=[.tmp 50]) (ts:=#[24]) (args:=[.slice A0 L0 k0]) ?_ (map1 ?_) (fun W => zaf Tryz.func27 rfl rfl _ W) fun W' hW => C.sum A0 L0 k0 x0 W' (KT.more ((HKT.out.chg hC (fun h => by have h:=zay h; simp only [oldL,List.map_cons,List.map_nil,List.mem_cons,Option.some.injEq,List.not_mem_nil,reduceCtorEq,false_or,or_false] at h; omega))) hW) HL0.out.1 HL0.out.2.1 (by have:=HL0.out.2.2.1; omega) ((HL0.out.2.2.2.1.chg (HB0.out.1.ext HW.out.2.2.2.2.2) hC (fun z h => by have h:=zay h; simp only [oldL,List.map_cons,List.map_nil,List.mem_cons,Option.some.injEq,List.not_mem_nil,reduceCtorEq,false_or,or_false] at h; omega)).ext hW)
      ·
       rfl
      ·
       exact (ev_at (i:=3) (by kernel_rfl) rfl rfl).trans (hR 3 (.head _))
     ·
      intro vs W hC _
      with_reducible refine zce (ty:=46) (x:=.tmp 9) (g:=g9) (t:=46) (C:=gc (sigR x1) (sigS x1)) (fr:=(0,0)) ?_ ?_ ?_ Tryz.underlying46 ?_ ?_
      ·
       rfl
      ·
       exact (zan (by kernel_rfl)).trans rfl
      ·
       exact hC.at HW.out.2.1 (fun h => by have h:=zay h; simp only [oldL,List.map_cons,List.map_nil,List.mem_cons,Option.some.injEq,List.not_mem_nil,reduceCtorEq,false_or,or_false] at h; omega)
      ·
       rfl
      ·
       exact iSg _ _
     ·
      exact ⟨rfl,H7.out.b2,_,_,_,rfl,fun vs W hR => ⟨(zan (by kernel_rfl)).trans rfl,(ev_at (i:=0) (by kernel_rfl) rfl rfl).trans (hR 0 (.head _)),HX.out.1,HX.out.2.1,HX.out.2.2⟩⟩
     ·
      exact ⟨rfl,H7.out.b3,_,_,_,rfl,fun vs W hR => ⟨(zan (by kernel_rfl)).trans rfl,(ev_at (i:=4) (by kernel_rfl) rfl rfl).trans (hR 4 (.head _)),iDg _,(zai 32 _).symm,zbn fun _ _ => rfl⟩⟩
     ·
      exact ⟨rfl,H7.out.b4,_,_,_,rfl,fun vs W hR => ⟨(zan (by kernel_rfl)).trans rfl,(ev_at (i:=5) (by kernel_rfl) rfl rfl).trans (hR 5 (.head _)),iSg _ _,rfl,zda _ _⟩⟩
     ·
      intro vs W _ _
      with_reducible refine zaq (x:=.const Value.nilIface) ?_ ?_
      ·
       exact .inr rfl
      ·
       exact rfl
    ·
     intro vs W hI
     obtain ⟨o1,o2,o3,o4,o5,o6,o7⟩:=HO.out
     have e0 : vs 0 = .agg X:=hI.out.R 0 (by decide)
     have e1 : vs 1 = .slice (some ⟨b,o,none⟩) 2 cl:=hI.out.R 1 (by decide)
     have e2 : vs 2 = .pointer (some ⟨b,o + 0,none⟩):=hI.out.R 2 (by decide)
     have e3 : vs 3 = .slice A0 L0 k0:=hI.out.R 3 (by decide)
     have e4 : vs 4 = dgv (dgL x0):=hI.out.R 4 (by decide)
     have e5 : vs 5 = .agg (gc (sigR x1) (sigS x1)):=hI.out.R 5 (by decide)
     have e9 : vs 9 = .nilIface:=hI.out.R 9 (by decide)
     have q2 : W.heap[g2]? = some (.cells X 26 (0,0)):=hI.out.O (i:=6) (by decide) rfl
     have q3 : W.heap[g3]? = some (.cells (dgc (dgL x0)) 23 (0,0)):=hI.out.O (i:=7) (by decide) rfl
     have q4 : W.heap[g4]? = some (.cells (gc (sigR x1) (sigS x1)) 46 (0,0)):=hI.out.O (i:=8) (by decide) rfl
     have hE : Ext w W:=hI.out.chg.new H7.out.ext (fun z hz h => by have h:=zay h; simp only [oldL,List.map_cons,List.map_nil,List.mem_cons,Option.some.injEq,List.not_mem_nil,reduceCtorEq,false_or,or_false] at h; omega)
     have hRW:=HW.out.2.2.2.2.1.chg hI.out.chg fun z h => by have h:=zay h; simp only [oldL,List.map_cons,List.map_nil,List.mem_cons,Option.some.injEq,List.not_mem_nil,reduceCtorEq,false_or,or_false] at h; have:=HN.out.2.1; omega
     simp only [putF,e0,e1,e2,e3,e4,e5,e9,Nat.zero_add,Nat.reduceAdd,Act.put,List.setIfInBounds_toArray,List.set_cons_zero,List.set_cons_succ]
     have HZ2:=veil (And.intro q2 (And.intro q3 (And.intro q4 (And.intro hE (hRW.le (Below.size H1.out.ext))))))
     clear hI q2 q3 q4 hE hRW e0 e1 e2 e3 e4 e5 e9 o1 o2 o3 o4 o5 o6 o7
     go_wp2
     exact bodyPost_ret (zat rfl _ _ g2 g3 g4 26 23 46 X (dgc (dgL x0)) (gc (sigR x1) (sigS x1)) (0,0) (0,0) (0,0) _ _ _ rfl HZ2.out.1 Tryz.underlying26 rfl HX.out.1 rfl HZ2.out.2.1 Tryz.underlying23 rfl (iDg _) rfl HZ2.out.2.2.1 Tryz.underlying46 rfl (iSg _ _)) rfl ⟨_,_,_,_,rfl,HZ2.out.2.2.2.1,.inr ⟨r,x0,_,_,HR.out,HZ2.out.2.2.2.2,rfl,rfl,rfl⟩⟩
theorem OpenN17.ext {n : Nat} {w w' : World} {bs : List Nat} {X D G : Array Value} {ev : Value} (h : OpenN17 n w bs X D G ev) (k : Ext w w') : OpenN17 n w' bs X D G ev :=
 h.imp id fun ⟨r,body,x,s,h1,h2,h3⟩ => ⟨r,body,x,s,h1,h2.ext k,h3⟩
theorem zch {n : Nat} {w : World} {bs : List Nat} {X D G : Array Value} {ev : Value} (h : OpenN17 n w bs X D G ev) : ((Tryz.prog.info? 26).map (·.size) = some X.size ∧ RZ.size = X.size ∧ X.all (·.oneCell') = true) ∧ ((Tryz.prog.info? 23).map (·.size) = some D.size ∧ DZ.size = D.size ∧ D.all (·.oneCell') = true) ∧
  ((Tryz.prog.info? 46).map (·.size) = some G.size ∧ Z8.size = G.size ∧ G.all (·.oneCell') = true):=by
 rcases h with ⟨_,rfl,rfl,rfl,_⟩ | ⟨r,body,x,s,_,hR,rfl,rfl,_⟩
 ·
  exact ⟨⟨iRZ,rfl,zbm⟩,⟨iDZ,rfl,zcv⟩,⟨iSg _ _,rfl,zda _ _⟩⟩
 ·
  exact ⟨⟨hR.rv.info,hR.rv.size.symm,hR.rv.one⟩,⟨iDg _,(zai 32 _).symm,zbn fun _ _ => rfl⟩,⟨iSg _ _,rfl,zda _ _⟩⟩
theorem check17_calls (C : CodeL) (X Y : Nat) (f : Bool) (hX : X < top) (hY : Y < top) (A : Option Addr) (m c : Nat) (bs : List Nat) (hm : m = bs.length) (hmc : m ≤ c) (hle : m ≤ 100000000) (w : World) (hK : KT w) (hS : Bs w A bs) :
  Calls Tryz.prog 17 #[.slice A m c,qv X Y f] w fun e w' => ∃ T ev,e = .returned (.tuple #[.agg T,ev]) ∧ Ext w w' ∧ CheckA17 lowL X Y f w' bs T ev:=by
 have KO:=veil (fun W (h : Ext w W) => zfh C A m c bs hm hmc hle W (hK.more h) (hS.ext h))
 have k2:=neNil2
 have k3:=neNilN
 have HB:=veil hS.1
 have HX:=veil (And.intro hX hY)
 obtain ⟨Q,hC⟩ : ∃ C,C = qc X Y f:=⟨_,rfl⟩
 have HC:=veil (And.intro hC (And.intro (show (Tryz.prog.info? 44).map (·.size) = some Q.size by rw [hC]; exact iT X Y f) (show Q.all (·.oneCell') = true by rw [hC]; exact qc_one X Y f)))
 unfold qv
 rw [← hC]
 clear hm hmc hle hS hX hY hC hK
 go_enter Tryz.func17,Tryz.ntmps17
 go_upto_region 1 with (fail)
 obtain ⟨g3,hg3⟩ : ∃ g,g = w.heap.size:=⟨_,rfl⟩
 obtain ⟨g4,hg4⟩ : ∃ g,g = w.heap.size + 1:=⟨_,rfl⟩
 obtain ⟨w0,hw0⟩ : ∃ W,W = (w.alloc (.cells Q 44)).alloc (.cells RZ 26):=⟨_,rfl⟩
 have h3:=(zfy w (.cells Q 44) (.cells RZ 26)).1
 have h4:=(zfy w (.cells Q 44) (.cells RZ 26)).2
 have hE0:=zey w (.cells Q 44) (.cells RZ 26)
 have hs0 : w0.heap.size = g4 + 1:=by rw [hw0,hg4]; simp only [World.size_alloc]
 rw [← hw0,← hg3] at h3
 rw [← hw0,← hg4] at h4
 rw [← hw0] at hE0
 have H0:=veil (And.intro hE0 (And.intro h3 (And.intro h4 (show w.heap.size ≤ g4 by omega))))
 have HZ:=veil hs0
 unfold RZ at hw0
 rw [← hw0,← hg4,← hg3]
 clear hw0 hg3 hg4 hE0 h3 h4 hs0
 go_upto_region 2 with (first
  | (go_at_call 15; refine (KO.out w0 H0.out.1).mono ?_; rintro e w2 ⟨X1,D,G,ev,rfl,hE2,hA⟩)
  | ((with_reducible refine zah ?_); refine wpList_store_row rfl 26 _ _ rfl w2.heap.size X1 rfl rfl 26 _ (zbe w2 _ _ _).1 (zch hA).1.1 (zch hA).1.2.1 (zch hA).1.2.2 ?_)
  | ((with_reducible refine zah ?_); refine wpList_store_row rfl 23 _ _ rfl (w2.heap.size + 1) D rfl rfl 23 _ (zax _ (zbe w2 _ _ _).2.1 (Nat.lt_succ_self _)) (zch hA).2.1.1 (zch hA).2.1.2.1 (zch hA).2.1.2.2 ?_)
  | ((with_reducible refine zah ?_); refine wpList_store_row rfl 46 _ _ rfl (w2.heap.size + 1 + 1) G rfl rfl 46 _ (zax _ (zax _ (zbe w2 _ _ _).2.2 (by omega)) (by omega)) (zch hA).2.2.1 (zch hA).2.2.2.1 (zch hA).2.2.2.2 ?_))
 change Code.wp _ _ _ _ (stored3 w2 X1 D G)
 have hF:=zdi w2 X1 D G
 have hSZ:=zch hA
 have hA3:=hA.ext hF.1
 generalize stored3 w2 X1 D G = w3 at *
 obtain ⟨g6,hg6⟩ : ∃ g,g = w2.heap.size:=⟨_,rfl⟩
 obtain ⟨g7,hg7⟩ : ∃ g,g = w2.heap.size + 1:=⟨_,rfl⟩
 obtain ⟨g8,hg8⟩ : ∃ g,g = w2.heap.size + 1 + 1:=⟨_,rfl⟩
 rw [← hg8,← hg7,← hg6] at hF ⊢
 have hE3:=hE2.trans hF.1
 have H3:=veil (And.intro (H0.out.1.trans hE3) (And.intro (hE3.block H0.out.2.1) (And.intro (hE3.block H0.out.2.2.1) hF.2)))
 have HS:=veil hSZ
 have HA:=veil hA3
 clear hF hg6 hg7 hg8 hE2 hE3 hSZ hA hA3 KO
 rcases HA.out with ⟨hop,rfl,rfl,rfl,rfl⟩ | ⟨r,body,x,s,hop,hRv,rfl,rfl,rfl⟩
 ·
  have HP:=veil hop
  clear HA hop
  go_wp2_with ((with_reducible refine zah ?_); refine wpList_store_row rfl 26 _ _ rfl g4 RZ rfl rfl 26 _ H3.out.2.2.1 iRZ rfl zbm ?_)
  exact bodyPost_ret (zby rfl _ _ g4 26 RZ (0,0) _ rfl (setRow_heap w3 g4 _ RZ 26 (0,0) H3.out.2.2.1) Tryz.underlying26 rfl iRZ) rfl ⟨_,_,rfl,zak H3.out.1 H0.out.2.2.2 _,.inl ⟨HP.out,rfl,rfl⟩⟩
 ·
  have HR:=veil (And.intro hop hRv)
  obtain ⟨hx1,hx2⟩ : x < top ∧ s < top:=by
   have:=ziq HB.out hop
   exact ⟨this.2.2.2.2.1,this.2.2.2.2.2.1⟩
  obtain ⟨v,hv⟩ : ∃ v,v = vfL X Y f (dgL body) x s:=⟨_,rfl⟩
  have KV : Hid (∀ W : World,Calls Tryz.prog 43 #[.agg Q,.agg (dgc (dgL body)),.agg (gc x s)] W fun e w' => e = .returned (.bool v) ∧ Ext W w'):=veil (fun W => by
   have h:=C.ver X Y f (dgL body) x s W HX.out.1 HX.out.2 hx1 hx2 (dgL_lt _)
   unfold qv gv at h
   rw [← HC.out.1,← hv] at h
   exact h)
  have HV:=veil hv
  clear hv hx1 hx2 hop hRv HA
  cases v with
  | false =>
   go_upto_region 5 with (first
    | ((with_reducible refine zaa 21 ?_); refine wpList_load_row rfl 44 _ rfl g3 rfl 44 Q (0,0) _ H3.out.2.1 Tryz.underlying44 rfl HC.out.2.1 ?_)
    | ((with_reducible refine zaa 22 ?_); refine wpList_load_row rfl 23 _ rfl g7 rfl 23 (dgc (dgL body)) (0,0) _ H3.out.2.2.2.2.1 Tryz.underlying23 rfl (iDg _) ?_)
    | ((with_reducible refine zaa 23 ?_); refine wpList_load_row rfl 46 _ rfl g8 rfl 46 (gc x s) (0,0) _ H3.out.2.2.2.2.2 Tryz.underlying46 rfl (iSg x s) ?_)
    | (go_at_call 43; refine (KV.out w3).mono ?_; rintro e w4 ⟨rfl,hE4⟩))
   have H5:=veil (And.intro (H3.out.1.trans hE4) (And.intro (hE4.block H3.out.2.2.1) (And.intro (hE4.block H3.out.2.2.2.1) (HR.out.2.ext hE4))))
   clear hE4 KV
   go_wp2_with ((with_reducible refine zah ?_); refine wpList_store_row rfl 26 _ _ rfl g4 RZ rfl rfl 26 _ H5.out.2.1 iRZ rfl zbm ?_)
   exact bodyPost_ret (zby rfl _ _ g4 26 RZ (0,0) _ rfl (setRow_heap w4 g4 _ RZ 26 (0,0) H5.out.2.1) Tryz.underlying26 rfl iRZ) rfl ⟨_,_,rfl,zak H5.out.1 H0.out.2.2.2 _,.inr (.inl ⟨r,body,x,s,HR.out.1,HV.out.symm,rfl,rfl⟩)⟩
  | true =>
   go_upto_region 6 with (first
    | ((with_reducible refine zaa 21 ?_); refine wpList_load_row rfl 44 _ rfl g3 rfl 44 Q (0,0) _ H3.out.2.1 Tryz.underlying44 rfl HC.out.2.1 ?_)
    | ((with_reducible refine zaa 22 ?_); refine wpList_load_row rfl 23 _ rfl g7 rfl 23 (dgc (dgL body)) (0,0) _ H3.out.2.2.2.2.1 Tryz.underlying23 rfl (iDg _) ?_)
    | ((with_reducible refine zaa 23 ?_); refine wpList_load_row rfl 46 _ rfl g8 rfl 46 (gc x s) (0,0) _ H3.out.2.2.2.2.2 Tryz.underlying46 rfl (iSg x s) ?_)
    | (go_at_call 43; refine (KV.out w3).mono ?_; rintro e w4 ⟨rfl,hE4⟩))
   have H5:=veil (And.intro (H3.out.1.trans hE4) (And.intro (hE4.block H3.out.2.2.1) (And.intro (hE4.block H3.out.2.2.2.1) (HR.out.2.ext hE4))))
   clear hE4 KV
   go_wp2_with (first
    | ((with_reducible refine zaa 28 ?_); refine wpList_load_row rfl 26 _ rfl g6 rfl 26 X1 (0,0) _ H5.out.2.2.1 Tryz.underlying26 rfl HS.out.1.1 ?_)
    | ((with_reducible refine zah ?_); refine wpList_store_row rfl 26 _ _ rfl g4 X1 rfl rfl 26 _ H5.out.2.1 HS.out.1.1 HS.out.1.2.1 HS.out.1.2.2 ?_))
   exact bodyPost_ret (zby rfl _ _ g4 26 X1 (0,0) _ rfl (setRow_heap w4 g4 _ X1 26 (0,0) H5.out.2.1) Tryz.underlying26 rfl HS.out.1.1) rfl ⟨_,_,rfl,zak H5.out.1 H0.out.2.2.2 _,.inr (.inr ⟨r,body,x,s,HR.out.1,HV.out.symm,(H5.out.2.2.2.row (show g4 < w0.heap.size by rw [HZ.out]; exact Nat.lt_succ_self _) X1).rv,rfl⟩)⟩
end Go.Proofs.YtihophdbkjhopaaGreatDoor
