/-
  Of FCut FCutn FAdd2 NS4 KH FSub2 FMul2 C1 C2 C4 C3 C5 C6 C7 C8 CM CR CD.
-/
import Derived.Deep.CutRange
import Derived.Deep.AppendLies
import Derived.Deep.RegionHeld3
import Derived.Test.YthlbemnbmbmjhaaGreatDoorZC18
import Derived.Test.YthlbemnbmbmjhaaGreatDoorZC17
import Derived.Test.YthlbemnbmbmjhaaGreatDoorZC6
import Derived.Test.YthlbemnbmbmjhaaGreatDoorZC3
import Derived.Test.YthlbemnbmbmjhaaGreatDoorZC10
import Derived.Test.YthlbemnbmbmjhaaGreatDoorZC2
import Derived.Test.YthlbemnbmbmjhaaGreatDoorZC5
import Derived.Test.YthlbemnbmbmjhaaGreatDoorZC13
import Derived.Test.YthlbemnbmbmjhaaGreatDoorZC8
import Derived.Test.YthlbemnbmbmjhaaGreatDoorZC12
import Derived.Test.YthlbemnbmbmjhaaGreatDoorZC19
import Derived.Test.YthlbemnbmbmjhaaGreatDoorZC7
import Derived.Test.YthlbemnbmbmjhaaGreatDoorZC16
set_option maxRecDepth 1000000
set_option maxHeartbeats 20000000
namespace Go.Proofs.YthlbemnbmbmjhaaGreatDoor
open Go.RowKit
open Go.Value renaming int → vI
open Go.IntKind renaming u64 → vU
open Go.Act renaming put → aP
open List renaming setIfInBounds_toArray → lA, set_cons_zero → lZ, set_cons_succ → lS
theorem kshr (b X M : Nat) (N : Int) (Q V Z : Nat) (hV : V * top % M = X % M) (hlt : X < M * top) (hX : X < top8) (hZ : V % M = Z) (hK : Fok M N Q) (w : World) (hF : Fb w b M N Q) :
  Calls Tryz.prog 149 #[.pointer (some ⟨b,0,none⟩),.agg #[vI vU (wd X 0),vI vU (wd X 1),vI vU (wd X 2),vI vU (wd X 3),vI vU (wd X 4),vI vU (wd X 5),vI vU (wd X 6),vI vU (wd X 7)]] w fun e w' => e = .returned (.agg #[vI vU (wd Z 0),vI vU (wd Z 1),vI vU (wd Z 2),vI vU (wd Z 3)]) ∧ Below w.heap.size w w':=by
 refine (shrunk_any b X M N Q hX hK w hF).mono ?_
 rintro e w' ⟨⟨Z',h1,h2,h3,rfl⟩,hb⟩
 have e1:=cut_top hK.odd (h2.trans hV.symm)
 rw [Nat.mod_eq_of_lt (h3 hlt),hZ] at e1
 subst e1
 exact ⟨rfl,hb⟩
theorem sq_num {Z X M : Nat} {N : Int} {Q : Nat} (hK : Fok M N Q) (h : Z * top % M = X % M) : X * top % M = Z * Q % M:=by
 rw [hK.q,Nat.mul_mod_mod,zki,← Nat.mul_assoc,← Nat.mod_mul_mod (Z * top),h,Nat.mod_mul_mod]
theorem mul_lt8 {X Y : Nat} (hX : X < top) (hY : Y < top) : X * Y < top8:=by
 rw [zki]; exact Nat.mul_lt_mul'' hX hY
theorem mul_ltm {X Q M : Nat} (hX : X < top) (hQ : Q < M) : X * Q < M * top:=by
 rw [Nat.mul_comm M]; exact Nat.mul_lt_mul'' hX hQ
theorem cutw_calls (b X M : Nat) (N : Int) (Q P : Nat) (hX : X < top8) (hK : Fok M N Q) (hP : X % M = P) (w : World) (hF : Fb w b M N Q) :
  Calls Tryz.prog 127 #[.pointer (some ⟨b,0,none⟩),.agg #[vI vU (wd X 0),vI vU (wd X 1),vI vU (wd X 2),vI vU (wd X 3),vI vU (wd X 4),vI vU (wd X 5),vI vU (wd X 6),vI vU (wd X 7)]] w fun e w' => e = .returned (.agg #[vI vU (wd P 0),vI vU (wd P 1),vI vU (wd P 2),vI vU (wd P 3)]) ∧ Below w.heap.size w w':=by
 have hQ:=hK.qm
 have hQt : Q < top:=by have:=hK.mt; omega
 have HX:=veil hX
 have HQ:=veil hQ
 have HP:=veil hP
 clear hX hQ hP
 have hA : ((w.alloc (.cells #[vI vU (wd X 0),vI vU (wd X 1),vI vU (wd X 2),vI vU (wd X 3),vI vU (wd X 4),vI vU (wd X 5),vI vU (wd X 6),vI vU (wd X 7)] 165)).alloc (.cells #[vI vU 0,vI vU 0,vI vU 0,vI vU 0] 27)).rowIs w.heap.size 165 8 (fun j => .int .u64 (wd X j)):=(zae (n:=8) (by simp) rfl (arr8 fun j => .int .u64 (wd X j))).alloc _
 have hR : ((w.alloc (.cells #[vI vU (wd X 0),vI vU (wd X 1),vI vU (wd X 2),vI vU (wd X 3),vI vU (wd X 4),vI vU (wd X 5),vI vU (wd X 6),vI vU (wd X 7)] 165)).alloc (.cells #[vI vU 0,vI vU 0,vI vU 0,vI vU 0] 27)).rowIs (w.heap.size + 1) 27 4 (fun _ => .int .u64 0):=zae (n:=4) (by simp) rfl (arr4 fun _ => .int .u64 0)
 have hbel : Below w.heap.size w ((w.alloc (.cells #[vI vU (wd X 0),vI vU (wd X 1),vI vU (wd X 2),vI vU (wd X 3),vI vU (wd X 4),vI vU (wd X 5),vI vU (wd X 6),vI vU (wd X 7)] 165)).alloc (.cells #[vI vU 0,vI vU 0,vI vU 0,vI vU 0] 27)):=((Below.refl _ _).alloc (by simp) _).alloc (by simp) _
 have hFr : Fb ((w.alloc (.cells #[vI vU (wd X 0),vI vU (wd X 1),vI vU (wd X 2),vI vU (wd X 3),vI vU (wd X 4),vI vU (wd X 5),vI vU (wd X 6),vI vU (wd X 7)] 165)).alloc (.cells #[vI vU 0,vI vU 0,vI vU 0,vI vU 0] 27)) b M N Q:=((hF).alloc _).alloc _
 have hbs:=hF.lt
 clear hF
 go_enter Tryz.func127,Tryz.ntmps127
 go_wp2_with fail
 generalize ((w.alloc (.cells #[vI vU (wd X 0),vI vU (wd X 1),vI vU (wd X 2),vI vU (wd X 3),vI vU (wd X 4),vI vU (wd X 5),vI vU (wd X 6),vI vU (wd X 7)] 165)).alloc (.cells #[vI vU 0,vI vU 0,vI vU 0,vI vU 0] 27)) = w0 at *
 obtain ⟨a0,a1,a2,a3,a4,a5,a6,a7⟩:=row_c8 hA
 obtain ⟨s0,s1,s2,s3⟩:=hFr.sq
 obtain ⟨f0,f1,f2,f3⟩:=zaf hR
 obtain ⟨d0,d1,d2,d3⟩:=zac hR
 go_region_with (first
  | (go_at_call 149; refine (kshr b (Z * Q) M N Q X P (sq_num hK HZ.out) (mul_ltm hZt HQ.out) (mul_lt8 hZt hQt) HP.out hK _ (by exact hFr)).mono ?_; rintro e w3 ⟨rfl,hb3⟩; replace hR:=zaa (by exact hR) hb3 (by exact hR.lt); replace hFr:=Fb.below (by exact hFr) hb3 (by exact hFr.lt); replace hbel:=Below.trans (by first | exact hbel | exact hbel.drew) (hb3.mono (by exact hbel.size)); obtain ⟨f0,f1,f2,f3⟩:=zaf hR; obtain ⟨d0,d1,d2,d3⟩:=zac hR)
  | (go_at_call 149; refine (shrunk_any b X M N Q HX.out hK _ (by exact hFr)).mono ?_; rintro e w1 ⟨⟨Z,hZt,hZ1,_,rfl⟩,hb1⟩; replace hR:=zaa (by exact hR) hb1 (by exact hR.lt); replace hFr:=Fb.below (by exact hFr) hb1 (by exact hFr.lt); replace hbel:=Below.trans (by first | exact hbel | exact hbel.drew) (hb1.mono (by exact hbel.size)); have HZ:=veil hZ1; clear hZ1; obtain ⟨s0,s1,s2,s3⟩:=hFr.sq)
  | (go_at_call 128; refine (kmul Z Q _ rfl hZt hQt _).mono ?_; rintro e w2 ⟨rfl,hb2⟩; replace hR:=zaa (by exact hR) hb2 (by exact hR.lt); replace hFr:=Fb.below (by exact hFr) hb2 (by exact hFr.lt); replace hbel:=Below.trans (by first | exact hbel | exact hbel.drew) (hb2.mono (by exact hbel.size))))
 all_goals
  clear a0 a1 a2 a3 a4 a5 a6 a7 s0 s1 s2 s3 f0 f1 f2 f3 d0 d1 d2 d3
  go_wp2
  refine bodyPost_ret (results_cell_row rfl _ _ (w.heap.size + 1) 27 #[vI vU (wd P 0),vI vU (wd P 1),vI vU (wd P 2),vI vU (wd P 3)] (0,0) _ rfl (blk4 (put4 hR fun j => .int .u64 (wd (P) j))) Tryz.underlying27 rfl (by kernel_rfl)) rfl ⟨rfl,zai hbel (by omega) _ _ _ _⟩
theorem top_lt8 {X : Nat} (h : X < top) : X < top8:=by
 rw [zki]; exact Nat.lt_of_lt_of_le h (Nat.le_mul_of_pos_right _ zcb)
theorem fcut_less (b X M : Nat) (N : Int) (Q P : Nat) (hX : X < top) (hK : Fok M N Q) (hP : X % M = P) (hl : X < M) (w : World) (hF : Fb w b M N Q) :
  Calls Tryz.prog 139 #[.pointer (some ⟨b,0,none⟩),.agg #[vI vU (wd X 0),vI vU (wd X 1),vI vU (wd X 2),vI vU (wd X 3)]] w fun e w' => e = .returned (.agg #[vI vU (wd P 0),vI vU (wd P 1),vI vU (wd P 2),vI vU (wd P 3)]) ∧ Below w.heap.size w w':=by
 obtain ⟨c,hc⟩ : ∃ c,c = cmpN X M:=⟨_,rfl⟩
 have hcn : c = -1:=by rw [hc]; unfold cmpN; rw [if_pos hl]
 have KC:=veil (fun W => kcmp X M c hc.symm hX hK.mt W)
 rw [Nat.mod_eq_of_lt hl] at hP
 subst hP
 subst hcn
 clear hc hl hX
 have hA : ((w.alloc (.cells #[vI vU (wd X 0),vI vU (wd X 1),vI vU (wd X 2),vI vU (wd X 3)] 27)).alloc (.cells #[vI vU 0,vI vU 0,vI vU 0,vI vU 0] 27)).rowIs w.heap.size 27 4 (fun j => .int .u64 (wd X j)):=(zae (n:=4) (by simp) rfl (arr4 fun j => .int .u64 (wd X j))).alloc _
 have hR : ((w.alloc (.cells #[vI vU (wd X 0),vI vU (wd X 1),vI vU (wd X 2),vI vU (wd X 3)] 27)).alloc (.cells #[vI vU 0,vI vU 0,vI vU 0,vI vU 0] 27)).rowIs (w.heap.size + 1) 27 4 (fun _ => .int .u64 0):=zae (n:=4) (by simp) rfl (arr4 fun _ => .int .u64 0)
 have hbel : Below w.heap.size w ((w.alloc (.cells #[vI vU (wd X 0),vI vU (wd X 1),vI vU (wd X 2),vI vU (wd X 3)] 27)).alloc (.cells #[vI vU 0,vI vU 0,vI vU 0,vI vU 0] 27)):=((Below.refl _ _).alloc (by simp) _).alloc (by simp) _
 have hFr : Fb ((w.alloc (.cells #[vI vU (wd X 0),vI vU (wd X 1),vI vU (wd X 2),vI vU (wd X 3)] 27)).alloc (.cells #[vI vU 0,vI vU 0,vI vU 0,vI vU 0] 27)) b M N Q:=((hF).alloc _).alloc _
 have hbs:=hF.lt
 clear hF
 go_enter Tryz.func139,Tryz.ntmps139
 go_wp2_with fail
 generalize ((w.alloc (.cells #[vI vU (wd X 0),vI vU (wd X 1),vI vU (wd X 2),vI vU (wd X 3)] 27)).alloc (.cells #[vI vU 0,vI vU 0,vI vU 0,vI vU 0] 27)) = w0 at *
 obtain ⟨a0,a1,a2,a3⟩:=zac hA
 obtain ⟨m0,m1,m2,m3⟩:=hFr.mod
 go_region_with (go_at_call 113; refine (KC.out _).mono ?_; rintro e w1 ⟨rfl,hb1⟩; replace hA:=zaa (by exact hA) hb1 (by exact hA.lt); replace hR:=zaa (by exact hR) hb1 (by exact hR.lt); replace hFr:=Fb.below (by exact hFr) hb1 (by exact hFr.lt); replace hbel:=Below.trans (by first | exact hbel | exact hbel.drew) (hb1.mono (by exact hbel.size)))
 all_goals
  clear a0 a1 a2 a3 m0 m1 m2 m3 hb1
  obtain ⟨a0,a1,a2,a3⟩:=zac hA
  obtain ⟨f0,f1,f2,f3⟩:=zaf hR
  obtain ⟨d0,d1,d2,d3⟩:=zac hR
  go_wp2
  refine bodyPost_ret (results_cell_row rfl _ _ (w.heap.size + 1) 27 #[vI vU (wd X 0),vI vU (wd X 1),vI vU (wd X 2),vI vU (wd X 3)] (0,0) _ rfl (blk4 (put4 hR fun j => .int .u64 (wd (X) j))) Tryz.underlying27 rfl (by kernel_rfl)) rfl ⟨rfl,zai hbel (by omega) _ _ _ _⟩
theorem fcut_more (b X M : Nat) (N : Int) (Q P : Nat) (hX : X < top) (hK : Fok M N Q) (hP : X % M = P) (hl : ¬ X < M) (w : World) (hF : Fb w b M N Q) :
  Calls Tryz.prog 139 #[.pointer (some ⟨b,0,none⟩),.agg #[vI vU (wd X 0),vI vU (wd X 1),vI vU (wd X 2),vI vU (wd X 3)]] w fun e w' => e = .returned (.agg #[vI vU (wd P 0),vI vU (wd P 1),vI vU (wd P 2),vI vU (wd P 3)]) ∧ Below w.heap.size w w':=by
 obtain ⟨c,hc⟩ : ∃ c,c = cmpN X M:=⟨_,rfl⟩
 have hcn : 0 ≤ c:=by rw [hc,cmp_ge]; exact hl
 have KC:=veil (fun W => kcmp X M c hc.symm hX hK.mt W)
 have K1:=veil (fun W => wide_calls X hX W)
 have K2:=veil (fun W (h : Fb W b M N Q) => cutw_calls b X M N Q P (top_lt8 hX) hK hP W h)
 clear hc hl hX hP
 have hA : ((w.alloc (.cells #[vI vU (wd X 0),vI vU (wd X 1),vI vU (wd X 2),vI vU (wd X 3)] 27)).alloc (.cells #[vI vU 0,vI vU 0,vI vU 0,vI vU 0] 27)).rowIs w.heap.size 27 4 (fun j => .int .u64 (wd X j)):=(zae (n:=4) (by simp) rfl (arr4 fun j => .int .u64 (wd X j))).alloc _
 have hR : ((w.alloc (.cells #[vI vU (wd X 0),vI vU (wd X 1),vI vU (wd X 2),vI vU (wd X 3)] 27)).alloc (.cells #[vI vU 0,vI vU 0,vI vU 0,vI vU 0] 27)).rowIs (w.heap.size + 1) 27 4 (fun _ => .int .u64 0):=zae (n:=4) (by simp) rfl (arr4 fun _ => .int .u64 0)
 have hbel : Below w.heap.size w ((w.alloc (.cells #[vI vU (wd X 0),vI vU (wd X 1),vI vU (wd X 2),vI vU (wd X 3)] 27)).alloc (.cells #[vI vU 0,vI vU 0,vI vU 0,vI vU 0] 27)):=((Below.refl _ _).alloc (by simp) _).alloc (by simp) _
 have hFr : Fb ((w.alloc (.cells #[vI vU (wd X 0),vI vU (wd X 1),vI vU (wd X 2),vI vU (wd X 3)] 27)).alloc (.cells #[vI vU 0,vI vU 0,vI vU 0,vI vU 0] 27)) b M N Q:=((hF).alloc _).alloc _
 have hbs:=hF.lt
 clear hF
 go_enter Tryz.func139,Tryz.ntmps139
 go_wp2_with fail
 generalize ((w.alloc (.cells #[vI vU (wd X 0),vI vU (wd X 1),vI vU (wd X 2),vI vU (wd X 3)] 27)).alloc (.cells #[vI vU 0,vI vU 0,vI vU 0,vI vU 0] 27)) = w0 at *
 obtain ⟨a0,a1,a2,a3⟩:=zac hA
 obtain ⟨m0,m1,m2,m3⟩:=hFr.mod
 go_region_with (go_at_call 113; refine (KC.out _).mono ?_; rintro e w1 ⟨rfl,hb1⟩; replace hA:=zaa (by exact hA) hb1 (by exact hA.lt); replace hR:=zaa (by exact hR) hb1 (by exact hR.lt); replace hFr:=Fb.below (by exact hFr) hb1 (by exact hFr.lt); replace hbel:=Below.trans (by first | exact hbel | exact hbel.drew) (hb1.mono (by exact hbel.size)))
 all_goals
  clear a0 a1 a2 a3 m0 m1 m2 m3 hb1
  obtain ⟨a0,a1,a2,a3⟩:=zac hA
  go_wp2_with fail
  refine (K1.out _).mono ?_
  rintro e w2 ⟨rfl,hb2⟩
  replace hR:=zaa (by exact hR) hb2 (by exact hR.lt)
  replace hFr:=Fb.below (by exact hFr) hb2 (by exact hFr.lt)
  replace hbel:=Below.trans (by first | exact hbel | exact hbel.drew) (hb2.mono (by exact hbel.size))
  clear a0 a1 a2 a3 hA hb2
  go_wp2_with fail
  refine (K2.out _ hFr).mono ?_
  rintro e w3 ⟨rfl,hb3⟩
  replace hR:=zaa (by exact hR) hb3 (by exact hR.lt)
  replace hFr:=Fb.below (by exact hFr) hb3 (by exact hFr.lt)
  replace hbel:=Below.trans (by first | exact hbel | exact hbel.drew) (hb3.mono (by exact hbel.size))
  clear hb3 hFr
  obtain ⟨f0,f1,f2,f3⟩:=zaf hR
  obtain ⟨d0,d1,d2,d3⟩:=zac hR
  go_wp2
  refine bodyPost_ret (results_cell_row rfl _ _ (w.heap.size + 1) 27 #[vI vU (wd P 0),vI vU (wd P 1),vI vU (wd P 2),vI vU (wd P 3)] (0,0) _ rfl (blk4 (put4 hR fun j => .int .u64 (wd (P) j))) Tryz.underlying27 rfl (by kernel_rfl)) rfl ⟨rfl,zai hbel (by omega) _ _ _ _⟩
theorem fcut_calls (b X M : Nat) (N : Int) (Q P : Nat) (hX : X < top) (hK : Fok M N Q) (hP : X % M = P) (w : World) (hF : Fb w b M N Q) :
  Calls Tryz.prog 139 #[.pointer (some ⟨b,0,none⟩),.agg #[vI vU (wd X 0),vI vU (wd X 1),vI vU (wd X 2),vI vU (wd X 3)]] w fun e w' => e = .returned (.agg #[vI vU (wd P 0),vI vU (wd P 1),vI vU (wd P 2),vI vU (wd P 3)]) ∧ Below w.heap.size w w':=by
 by_cases h : X < M
 ·
  exact fcut_less b X M N Q P hX hK hP h w hF
 ·
  exact fcut_more b X M N Q P hX hK hP h w hF
theorem fadd2_calls (b X Y M : Nat) (N : Int) (Q Z : Nat) (hX : X < top) (hY : Y < top) (hK : Fok M N Q) (hZ : (X % M + Y % M) % M = Z) (w : World) (hF : Fb w b M N Q) :
  Calls Tryz.prog 110 #[.pointer (some ⟨b,0,none⟩),.agg #[vI vU (wd X 0),vI vU (wd X 1),vI vU (wd X 2),vI vU (wd X 3)],.agg #[vI vU (wd Y 0),vI vU (wd Y 1),vI vU (wd Y 2),vI vU (wd Y 3)]] w fun e w' => e = .returned (.agg #[vI vU (wd Z 0),vI vU (wd Z 1),vI vU (wd Z 2),vI vU (wd Z 3)]) ∧ Below w.heap.size w w':=by
 have hM0 : 0 < M:=by have:=hK.m2; omega
 have hX2:=Nat.mod_lt X hM0
 have hY2:=Nat.mod_lt Y hM0
 have K3:=veil (fun W (h : Fb W b M N Q) => fadd_calls b (X % M) (Y % M) M N Q Z hX2 hY2 hK.mt hZ W h)
 have HK:=veil hK
 clear hK hZ hM0 hX2 hY2
 have hA : (((w.alloc (.cells #[vI vU (wd X 0),vI vU (wd X 1),vI vU (wd X 2),vI vU (wd X 3)] 27)).alloc (.cells #[vI vU (wd Y 0),vI vU (wd Y 1),vI vU (wd Y 2),vI vU (wd Y 3)] 27)).alloc (.cells #[vI vU 0,vI vU 0,vI vU 0,vI vU 0] 27)).rowIs w.heap.size 27 4 (fun j => .int .u64 (wd X j)):=((zae (n:=4) (by simp) rfl (arr4 fun j => .int .u64 (wd X j))).alloc _).alloc _
 have hB : (((w.alloc (.cells #[vI vU (wd X 0),vI vU (wd X 1),vI vU (wd X 2),vI vU (wd X 3)] 27)).alloc (.cells #[vI vU (wd Y 0),vI vU (wd Y 1),vI vU (wd Y 2),vI vU (wd Y 3)] 27)).alloc (.cells #[vI vU 0,vI vU 0,vI vU 0,vI vU 0] 27)).rowIs (w.heap.size + 1) 27 4 (fun j => .int .u64 (wd Y j)):=(zae (n:=4) (by simp) rfl (arr4 fun j => .int .u64 (wd Y j))).alloc _
 have hR : (((w.alloc (.cells #[vI vU (wd X 0),vI vU (wd X 1),vI vU (wd X 2),vI vU (wd X 3)] 27)).alloc (.cells #[vI vU (wd Y 0),vI vU (wd Y 1),vI vU (wd Y 2),vI vU (wd Y 3)] 27)).alloc (.cells #[vI vU 0,vI vU 0,vI vU 0,vI vU 0] 27)).rowIs (w.heap.size + 1 + 1) 27 4 (fun _ => .int .u64 0):=zae (n:=4) (by simp) rfl (arr4 fun _ => .int .u64 0)
 have hbel : Below w.heap.size w (((w.alloc (.cells #[vI vU (wd X 0),vI vU (wd X 1),vI vU (wd X 2),vI vU (wd X 3)] 27)).alloc (.cells #[vI vU (wd Y 0),vI vU (wd Y 1),vI vU (wd Y 2),vI vU (wd Y 3)] 27)).alloc (.cells #[vI vU 0,vI vU 0,vI vU 0,vI vU 0] 27)):=(((Below.refl _ _).alloc (by simp) _).alloc (by simp) _).alloc (by simp; omega) _
 have hFr : Fb (((w.alloc (.cells #[vI vU (wd X 0),vI vU (wd X 1),vI vU (wd X 2),vI vU (wd X 3)] 27)).alloc (.cells #[vI vU (wd Y 0),vI vU (wd Y 1),vI vU (wd Y 2),vI vU (wd Y 3)] 27)).alloc (.cells #[vI vU 0,vI vU 0,vI vU 0,vI vU 0] 27)) b M N Q:=(((hF).alloc _).alloc _).alloc _
 have hbs:=hF.lt
 clear hF
 go_enter Tryz.func110,Tryz.ntmps110
 go_wp2_with fail
 generalize (((w.alloc (.cells #[vI vU (wd X 0),vI vU (wd X 1),vI vU (wd X 2),vI vU (wd X 3)] 27)).alloc (.cells #[vI vU (wd Y 0),vI vU (wd Y 1),vI vU (wd Y 2),vI vU (wd Y 3)] 27)).alloc (.cells #[vI vU 0,vI vU 0,vI vU 0,vI vU 0] 27)) = w0 at *
 obtain ⟨a0,a1,a2,a3⟩:=zac hA
 obtain ⟨b0,b1,b2,b3⟩:=zac hB
 obtain ⟨f0,f1,f2,f3⟩:=zaf hR
 obtain ⟨d0,d1,d2,d3⟩:=zac hR
 go_region_with (first
  | (go_at_call 139; refine (fcut_calls b _ M N Q _ (by assumption) HK.out rfl _ (by exact hFr)).mono ?_; rintro e w1 ⟨rfl,hb1⟩; replace hB:=zaa (by exact hB) hb1 (by exact hB.lt); replace hA:=zaa (by exact hA) hb1 (by exact hA.lt); replace hR:=zaa (by exact hR) hb1 (by exact hR.lt); replace hFr:=Fb.below (by exact hFr) hb1 (by exact hFr.lt); replace hbel:=Below.trans (by first | exact hbel | exact hbel.drew) (hb1.mono (by exact hbel.size)); obtain ⟨b0,b1,b2,b3⟩:=zac hB; obtain ⟨a0,a1,a2,a3⟩:=zac hA)
  | (go_at_call 138; refine (K3.out _ (by exact hFr)).mono ?_; rintro e w3 ⟨rfl,hb3⟩; replace hR:=zaa (by exact hR) hb3 (by exact hR.lt); replace hFr:=Fb.below (by exact hFr) hb3 (by exact hFr.lt); replace hbel:=Below.trans (by first | exact hbel | exact hbel.drew) (hb3.mono (by exact hbel.size)); obtain ⟨f0,f1,f2,f3⟩:=zaf hR; obtain ⟨d0,d1,d2,d3⟩:=zac hR))
 all_goals
  clear a0 a1 a2 a3 b0 b1 b2 b3 f0 f1 f2 f3 d0 d1 d2 d3
  go_wp2
  refine bodyPost_ret (results_cell_row rfl _ _ (w.heap.size + 1 + 1) 27 #[vI vU (wd Z 0),vI vU (wd Z 1),vI vU (wd Z 2),vI vU (wd Z 3)] (0,0) _ rfl (blk4 (put4 hR fun j => .int .u64 (wd (Z) j))) Tryz.underlying27 rfl (by kernel_rfl)) rfl ⟨rfl,zai hbel (by omega) _ _ _ _⟩
theorem pN_is (w : World) : Calls Tryz.prog 119 #[] w fun e w' => e = .returned (nv Pt.nn) ∧ Ext w w':=by
 obtain ⟨l0,l1,l2,l3⟩:=nn_words
 unfold nv nc
 rw [l0,l1,l2,l3]
 clear l0 l1 l2 l3
 go_enter Tryz.func119,Tryz.ntmps119
 go_wp2
 exact bodyPost_ret (results_cell_row rfl _ _ w.heap.size 27 #[vI vU 17562291160714782033,vI vU 13611842547513532036,vI vU 18446744073709551615,vI vU 18446744069414584320] (0,0) _ rfl (heap_alloc_last w _) Tryz.underlying27 rfl (by kernel_rfl)) rfl ⟨rfl,(Below.refl _ _).alloc (Nat.le_refl _) _⟩
theorem nn_odd : Pt.nn % 2 = 1 ∧ 2 < Pt.nn:=by decide +kernel
/-! ### digests -/
def dgL (bs : List Nat) (j : Nat) : Nat:=dByte (shaSt (fun i => bs.getD i 0) bs.length) j
theorem dgL_lt (bs : List Nat) (j : Nat) : dgL bs j < 256:=Nat.mod_lt _ (by decide)
theorem src_bs {w : World} {A : Option Addr} {bs : List Nat} (h : Bs w A bs) : Src w A bs.length (fun j => bs.getD j 0) w.heap.size :=
 h.2.imp id fun ⟨b,o,e,hb,hc⟩ => ⟨b,o,e,hb,by omega,hc⟩
/-! ### signatures -/
theorem on_of {X Y : Nat} (h : onB X Y false = true) : Pt.E256.on (some (Pt.F X,Pt.F Y)):=by
 have h1:=(onB_iff X Y false).1 h
 unfold Pt.isOn at h1
 rw [if_neg (by decide)] at h1
 exact h1.2.2
def vfL (X Y : Nat) (f : Bool) (y : Nat → Nat) (R S : Nat) : Bool:=if h : onB X Y false = true then !f && Pt.verB ⟨_,on_of h⟩ (num32 y) R S else false
theorem vfL_off {X Y : Nat} {f : Bool} (h : onB X Y f = false) (y : Nat → Nat) (R S : Nat) : vfL X Y f y R S = false:=by
 unfold vfL
 split
 ·
  rename_i h1
  cases f with
  | true => rfl
  | false => rw [h] at h1; cases h1
 ·
  rfl
theorem vfL_on (p : Pt.Q) (y : Nat → Nat) (R S : Nat) : vfL (Pt.pX p.1) (Pt.pY p.1) (Pt.pFar p.1) y R S = Pt.verB p (num32 y) R S:=by
 have hon:=onB_of p
 cases hf : Pt.pFar p.1 with
 | true =>
  have e : Pt.verB p (num32 y) R S = false:=by unfold Pt.verB; rw [hf]; rfl
  rw [e]
  unfold vfL
  split <;> rfl
 | false =>
  rw [hf] at hon
  unfold vfL
  rw [dif_pos hon,Bool.not_false,Bool.true_and]
  congr 1
  apply Subtype.ext
  refine Pt.p_inj ?_ ?_ ?_
  ·
   exact Nat.mod_eq_of_lt (Pt.pX_lt p.1)
  ·
   exact Nat.mod_eq_of_lt (Pt.pY_lt p.1)
  ·
   rw [hf]; rfl
def lowL : Low where
 dg:=dgL
 dgb:=dgL_lt
 vf:=vfL
structure CodeL : Prop where
 sum : ∀ A m c bs w,KT w → m = bs.length → m ≤ c → m ≤ 100000 → Bs w A bs → Calls Tryz.prog 65 #[.slice A m c] w fun e w' => e = .returned (dgv (dgL bs)) ∧ Ext w w'
 ver : ∀ X Y f y R S w,X < top → Y < top → R < top → S < top → (∀ j,y j < 256) → Calls Tryz.prog 64 #[qv X Y f,dgv y,gv R S] w fun e w' => e = .returned (.bool (vfL X Y f y R S)) ∧ Ext w w'
 parse_no : ∀ A m c w,m ≠ 64 → Calls Tryz.prog 62 #[.slice A m c] w fun e w' => e = .returned (.tuple #[gv 0 0,.iface 39 (.int .i64 2)]) ∧ Ext w w'
 parse_64 : ∀ A m c bs w,m = bs.length → m = 64 → m ≤ c → Bs w A bs → Calls Tryz.prog 62 #[.slice A m c] w fun e w' => e = .returned (.tuple #[gv (sigR bs) (sigS bs),.nilIface]) ∧ Ext w w'
theorem fsub2_calls (b X Y M : Nat) (N : Int) (Q Z : Nat) (hX : X < top) (hY : Y < top) (hK : Fok M N Q) (hZ : (X % M + M - Y % M) % M = Z) (w : World) (hF : Fb w b M N Q) :
  Calls Tryz.prog 111 #[.pointer (some ⟨b,0,none⟩),.agg #[vI vU (wd X 0),vI vU (wd X 1),vI vU (wd X 2),vI vU (wd X 3)],.agg #[vI vU (wd Y 0),vI vU (wd Y 1),vI vU (wd Y 2),vI vU (wd Y 3)]] w fun e w' => e = .returned (.agg #[vI vU (wd Z 0),vI vU (wd Z 1),vI vU (wd Z 2),vI vU (wd Z 3)]) ∧ Below w.heap.size w w':=by
 have hM0 : 0 < M:=by have:=hK.m2; omega
 have hX2:=Nat.mod_lt X hM0
 have hY2:=Nat.mod_lt Y hM0
 have K3:=veil (fun W (h : Fb W b M N Q) => zjz b (X % M) (Y % M) M N Q Z hX2 hY2 hK.mt hZ W h)
 have HK:=veil hK
 clear hK hZ hM0 hX2 hY2
 have hA : (((w.alloc (.cells #[vI vU (wd X 0),vI vU (wd X 1),vI vU (wd X 2),vI vU (wd X 3)] 27)).alloc (.cells #[vI vU (wd Y 0),vI vU (wd Y 1),vI vU (wd Y 2),vI vU (wd Y 3)] 27)).alloc (.cells #[vI vU 0,vI vU 0,vI vU 0,vI vU 0] 27)).rowIs w.heap.size 27 4 (fun j => .int .u64 (wd X j)):=((zae (n:=4) (by simp) rfl (arr4 fun j => .int .u64 (wd X j))).alloc _).alloc _
 have hB : (((w.alloc (.cells #[vI vU (wd X 0),vI vU (wd X 1),vI vU (wd X 2),vI vU (wd X 3)] 27)).alloc (.cells #[vI vU (wd Y 0),vI vU (wd Y 1),vI vU (wd Y 2),vI vU (wd Y 3)] 27)).alloc (.cells #[vI vU 0,vI vU 0,vI vU 0,vI vU 0] 27)).rowIs (w.heap.size + 1) 27 4 (fun j => .int .u64 (wd Y j)):=(zae (n:=4) (by simp) rfl (arr4 fun j => .int .u64 (wd Y j))).alloc _
 have hR : (((w.alloc (.cells #[vI vU (wd X 0),vI vU (wd X 1),vI vU (wd X 2),vI vU (wd X 3)] 27)).alloc (.cells #[vI vU (wd Y 0),vI vU (wd Y 1),vI vU (wd Y 2),vI vU (wd Y 3)] 27)).alloc (.cells #[vI vU 0,vI vU 0,vI vU 0,vI vU 0] 27)).rowIs (w.heap.size + 1 + 1) 27 4 (fun _ => .int .u64 0):=zae (n:=4) (by simp) rfl (arr4 fun _ => .int .u64 0)
 have hbel : Below w.heap.size w (((w.alloc (.cells #[vI vU (wd X 0),vI vU (wd X 1),vI vU (wd X 2),vI vU (wd X 3)] 27)).alloc (.cells #[vI vU (wd Y 0),vI vU (wd Y 1),vI vU (wd Y 2),vI vU (wd Y 3)] 27)).alloc (.cells #[vI vU 0,vI vU 0,vI vU 0,vI vU 0] 27)):=(((Below.refl _ _).alloc (by simp) _).alloc (by simp) _).alloc (by simp; omega) _
 have hFr : Fb (((w.alloc (.cells #[vI vU (wd X 0),vI vU (wd X 1),vI vU (wd X 2),vI vU (wd X 3)] 27)).alloc (.cells #[vI vU (wd Y 0),vI vU (wd Y 1),vI vU (wd Y 2),vI vU (wd Y 3)] 27)).alloc (.cells #[vI vU 0,vI vU 0,vI vU 0,vI vU 0] 27)) b M N Q:=(((hF).alloc _).alloc _).alloc _
 have hbs:=hF.lt
 clear hF
 go_enter Tryz.func111,Tryz.ntmps111
 go_wp2_with fail
 generalize (((w.alloc (.cells #[vI vU (wd X 0),vI vU (wd X 1),vI vU (wd X 2),vI vU (wd X 3)] 27)).alloc (.cells #[vI vU (wd Y 0),vI vU (wd Y 1),vI vU (wd Y 2),vI vU (wd Y 3)] 27)).alloc (.cells #[vI vU 0,vI vU 0,vI vU 0,vI vU 0] 27)) = w0 at *
 obtain ⟨a0,a1,a2,a3⟩:=zac hA
 obtain ⟨b0,b1,b2,b3⟩:=zac hB
 obtain ⟨f0,f1,f2,f3⟩:=zaf hR
 obtain ⟨d0,d1,d2,d3⟩:=zac hR
 go_region_with (first
  | (go_at_call 139; refine (fcut_calls b _ M N Q _ (by assumption) HK.out rfl _ (by exact hFr)).mono ?_; rintro e w1 ⟨rfl,hb1⟩; replace hB:=zaa (by exact hB) hb1 (by exact hB.lt); replace hA:=zaa (by exact hA) hb1 (by exact hA.lt); replace hR:=zaa (by exact hR) hb1 (by exact hR.lt); replace hFr:=Fb.below (by exact hFr) hb1 (by exact hFr.lt); replace hbel:=Below.trans (by first | exact hbel | exact hbel.drew) (hb1.mono (by exact hbel.size)); obtain ⟨b0,b1,b2,b3⟩:=zac hB; obtain ⟨a0,a1,a2,a3⟩:=zac hA)
  | (go_at_call 124; refine (K3.out _ (by exact hFr)).mono ?_; rintro e w3 ⟨rfl,hb3⟩; replace hR:=zaa (by exact hR) hb3 (by exact hR.lt); replace hFr:=Fb.below (by exact hFr) hb3 (by exact hFr.lt); replace hbel:=Below.trans (by first | exact hbel | exact hbel.drew) (hb3.mono (by exact hbel.size)); obtain ⟨f0,f1,f2,f3⟩:=zaf hR; obtain ⟨d0,d1,d2,d3⟩:=zac hR))
 all_goals
  clear a0 a1 a2 a3 b0 b1 b2 b3 f0 f1 f2 f3 d0 d1 d2 d3
  go_wp2
  refine bodyPost_ret (results_cell_row rfl _ _ (w.heap.size + 1 + 1) 27 #[vI vU (wd Z 0),vI vU (wd Z 1),vI vU (wd Z 2),vI vU (wd Z 3)] (0,0) _ rfl (blk4 (put4 hR fun j => .int .u64 (wd (Z) j))) Tryz.underlying27 rfl (by kernel_rfl)) rfl ⟨rfl,zai hbel (by omega) _ _ _ _⟩
theorem fmul2_calls (b X Y M : Nat) (N : Int) (Q Z : Nat) (hX : X < top) (hY : Y < top) (hK : Fok M N Q) (hZ : X * Y % M = Z) (w : World) (hF : Fb w b M N Q) :
  Calls Tryz.prog 89 #[.pointer (some ⟨b,0,none⟩),.agg #[vI vU (wd X 0),vI vU (wd X 1),vI vU (wd X 2),vI vU (wd X 3)],.agg #[vI vU (wd Y 0),vI vU (wd Y 1),vI vU (wd Y 2),vI vU (wd Y 3)]] w fun e w' => e = .returned (.agg #[vI vU (wd Z 0),vI vU (wd Z 1),vI vU (wd Z 2),vI vU (wd Z 3)]) ∧ Below w.heap.size w w':=by
 have K1:=veil (fun W => kmul X Y _ rfl hX hY W)
 have K2:=veil (fun W (h : Fb W b M N Q) => cutw_calls b (X * Y) M N Q Z (mul_lt8 hX hY) hK hZ W h)
 clear hX hY hK hZ
 generalize X * Y = P at *
 have hA : (((w.alloc (.cells #[vI vU (wd X 0),vI vU (wd X 1),vI vU (wd X 2),vI vU (wd X 3)] 27)).alloc (.cells #[vI vU (wd Y 0),vI vU (wd Y 1),vI vU (wd Y 2),vI vU (wd Y 3)] 27)).alloc (.cells #[vI vU 0,vI vU 0,vI vU 0,vI vU 0] 27)).rowIs w.heap.size 27 4 (fun j => .int .u64 (wd X j)):=((zae (n:=4) (by simp) rfl (arr4 fun j => .int .u64 (wd X j))).alloc _).alloc _
 have hB : (((w.alloc (.cells #[vI vU (wd X 0),vI vU (wd X 1),vI vU (wd X 2),vI vU (wd X 3)] 27)).alloc (.cells #[vI vU (wd Y 0),vI vU (wd Y 1),vI vU (wd Y 2),vI vU (wd Y 3)] 27)).alloc (.cells #[vI vU 0,vI vU 0,vI vU 0,vI vU 0] 27)).rowIs (w.heap.size + 1) 27 4 (fun j => .int .u64 (wd Y j)):=(zae (n:=4) (by simp) rfl (arr4 fun j => .int .u64 (wd Y j))).alloc _
 have hR : (((w.alloc (.cells #[vI vU (wd X 0),vI vU (wd X 1),vI vU (wd X 2),vI vU (wd X 3)] 27)).alloc (.cells #[vI vU (wd Y 0),vI vU (wd Y 1),vI vU (wd Y 2),vI vU (wd Y 3)] 27)).alloc (.cells #[vI vU 0,vI vU 0,vI vU 0,vI vU 0] 27)).rowIs (w.heap.size + 1 + 1) 27 4 (fun _ => .int .u64 0):=zae (n:=4) (by simp) rfl (arr4 fun _ => .int .u64 0)
 have hbel : Below w.heap.size w (((w.alloc (.cells #[vI vU (wd X 0),vI vU (wd X 1),vI vU (wd X 2),vI vU (wd X 3)] 27)).alloc (.cells #[vI vU (wd Y 0),vI vU (wd Y 1),vI vU (wd Y 2),vI vU (wd Y 3)] 27)).alloc (.cells #[vI vU 0,vI vU 0,vI vU 0,vI vU 0] 27)):=(((Below.refl _ _).alloc (by simp) _).alloc (by simp) _).alloc (by simp; omega) _
 have hFr : Fb (((w.alloc (.cells #[vI vU (wd X 0),vI vU (wd X 1),vI vU (wd X 2),vI vU (wd X 3)] 27)).alloc (.cells #[vI vU (wd Y 0),vI vU (wd Y 1),vI vU (wd Y 2),vI vU (wd Y 3)] 27)).alloc (.cells #[vI vU 0,vI vU 0,vI vU 0,vI vU 0] 27)) b M N Q:=(((hF).alloc _).alloc _).alloc _
 have hbs:=hF.lt
 clear hF
 go_enter Tryz.func89,Tryz.ntmps89
 obtain ⟨a0,a1,a2,a3⟩:=zac hA
 obtain ⟨b0,b1,b2,b3⟩:=zac hB
 go_wp2_with fail
 refine (K1.out _).mono ?_
 rintro e w1 ⟨rfl,hb1⟩
 replace hR:=zaa (by exact hR) hb1 (by exact hR.lt)
 replace hFr:=Fb.below (by exact hFr) hb1 (by exact hFr.lt)
 replace hbel:=Below.trans (by first | exact hbel | exact hbel.drew) (hb1.mono (by exact hbel.size))
 clear a0 a1 a2 a3 b0 b1 b2 b3 hA hB hb1
 go_wp2_with fail
 refine (K2.out _ hFr).mono ?_
 rintro e w2 ⟨rfl,hb2⟩
 replace hR:=zaa (by exact hR) hb2 (by exact hR.lt)
 replace hFr:=Fb.below (by exact hFr) hb2 (by exact hFr.lt)
 replace hbel:=Below.trans (by first | exact hbel | exact hbel.drew) (hb2.mono (by exact hbel.size))
 clear hb2 hFr
 obtain ⟨f0,f1,f2,f3⟩:=zaf hR
 obtain ⟨d0,d1,d2,d3⟩:=zac hR
 go_wp2
 refine bodyPost_ret (results_cell_row rfl _ _ (w.heap.size + 1 + 1) 27 #[vI vU (wd Z 0),vI vU (wd Z 1),vI vU (wd Z 2),vI vU (wd Z 3)] (0,0) _ rfl (blk4 (put4 hR fun j => .int .u64 (wd (Z) j))) Tryz.underlying27 rfl (by kernel_rfl)) rfl ⟨rfl,zai hbel (by omega) _ _ _ _⟩
def Fp (w : World) (b : Nat) : Prop:=∃ N Q,Fok Pt.pp N Q ∧ Fb w b Pt.pp N Q
theorem Fp.ext {w w' : World} {b : Nat} (h : Fp w b) (k : Ext w w') : Fp w' b:=by
 obtain ⟨N,Q,h1,h2⟩:=h
 exact ⟨N,Q,h1,h2.call k⟩
theorem Fp.lt {w : World} {b : Nat} (h : Fp w b) : b < w.heap.size:=by
 obtain ⟨N,Q,h1,h2⟩:=h
 exact h2.lt
abbrev Fe:=Fin Pt.pp
def sc (x y z : Nat) : Array Value:=#[vI vU (wd x 0),vI vU (wd x 1),vI vU (wd x 2),vI vU (wd x 3),vI vU (wd y 0),vI vU (wd y 1),vI vU (wd y 2),vI vU (wd y 3),vI vU (wd z 0),vI vU (wd z 1),vI vU (wd z 2),vI vU (wd z 3)]
def sv (x y z : Nat) : Value:=.agg (sc x y z)
def fv (k b : Nat) : Value:=.func (.func k) #[ptrTo b] #[]
def cc (b : Nat) : Array Value:=#[fv 110 b,fv 111 b,fv 89 b,fv 87 b]
def cv (b : Nat) : Value:=.agg (cc b)
theorem sc_one (x y z : Nat) : (sc x y z).all (·.oneCell') = true:=by simp [sc,Value.oneCell']
theorem cc_one (b : Nat) : (cc b).all (·.oneCell') = true:=by simp [cc,fv,Value.oneCell']
theorem iS (x y z : Nat) : (Tryz.prog.info? 177).map (·.size) = some (sc x y z).size:=by kernel_rfl
theorem iK (b : Nat) : (Tryz.prog.info? 126).map (·.size) = some (cc b).size:=by kernel_rfl
theorem zef (x : Fe) : x.val < top:=Nat.lt_trans x.isLt zbb
theorem fe_mod (x : Fe) : x.val % Pt.pp = x.val:=Nat.mod_eq_of_lt x.isLt
theorem kadd_p {b : Nat} {x y t : Fe} (ht : t = x + y) {w : World} (hF : Fp w b) : Calls Tryz.prog 110 #[ptrTo b,nv x.val,nv y.val] w fun e w' => e = .returned (nv t.val) ∧ Ext w w':=by
 obtain ⟨N,Q,h1,h2⟩:=hF
 exact fadd2_calls b x.val y.val Pt.pp N Q t.val (zef x) (zef y) h1 (by rw [fe_mod,fe_mod,Pt.v_add,ht]) w h2
theorem zdv {b : Nat} {x y t : Fe} (ht : t = x - y) {w : World} (hF : Fp w b) : Calls Tryz.prog 111 #[ptrTo b,nv x.val,nv y.val] w fun e w' => e = .returned (nv t.val) ∧ Ext w w':=by
 obtain ⟨N,Q,h1,h2⟩:=hF
 exact fsub2_calls b x.val y.val Pt.pp N Q t.val (zef x) (zef y) h1 (by rw [fe_mod,fe_mod,Pt.v_sub,ht]) w h2
theorem zbn {b : Nat} {x y t : Fe} (ht : t = x * y) {w : World} (hF : Fp w b) : Calls Tryz.prog 89 #[ptrTo b,nv x.val,nv y.val] w fun e w' => e = .returned (nv t.val) ∧ Ext w w':=by
 obtain ⟨N,Q,h1,h2⟩:=hF
 exact fmul2_calls b x.val y.val Pt.pp N Q t.val (zef x) (zef y) h1 (by rw [Pt.v_mul,ht]) w h2
theorem kinv_p {b : Nat} {x t : Fe} (hx : x ≠ 0) (ht : t = Pt.E256.inv x) {w : World} (hF : Fp w b) : Calls Tryz.prog 87 #[ptrTo b,nv x.val] w fun e w' => e = .returned (.tuple #[nv t.val,.nilIface]) ∧ Ext w w':=by
 obtain ⟨N,Q,h1,h2⟩:=hF
 refine (zka b x.val Pt.pp N Q (zef x) h1 w h2).mono ?_
 rintro e w' ⟨⟨y,hy,hi,rfl⟩,hb⟩
 have hg:=Pt.v_gcd hx
 rw [zjw hg,Pt.v_inv hy (hi hg),ht]
 exact ⟨rfl,hb⟩
theorem kinv_z {b : Nat} {w : World} (hF : Fp w b) : Calls Tryz.prog 87 #[ptrTo b,nv 0] w fun e w' => e = .returned (.tuple #[nv 0,.iface 39 (.int .i64 4)]) ∧ Ext w w':=by
 obtain ⟨N,Q,h1,h2⟩:=hF
 refine (zka b 0 Pt.pp N Q (Nat.two_pow_pos 256) h1 w h2).mono ?_
 rintro e w' ⟨⟨y,hy,hi,rfl⟩,hb⟩
 have hg : ¬ Nat.gcd 0 Pt.pp = 1:=by rw [Nat.gcd_zero_left]; decide +kernel
 rw [invRet_no hg]
 exact ⟨rfl,hb⟩
/-! ### operations -/
section
variable {P : Program} {o : Oper} {a : Act} {w : World}
end
theorem zie (W : World) : (isAgg 87).run Tryz.prog W = .ok false W:=by simp [isAgg,go_sem]
section
variable (g : Nat) (W : World)
theorem fldK0 : (Instr.fieldAt 126 (ptrTo g) 0).run Tryz.prog W = .ok (.pointer (some ⟨g,0,none⟩)) W:=by simp [Instr.fieldAt,go_sem]
theorem fldK1 : (Instr.fieldAt 126 (ptrTo g) 1).run Tryz.prog W = .ok (.pointer (some ⟨g,1,none⟩)) W:=by simp [Instr.fieldAt,go_sem]
theorem fldK2 : (Instr.fieldAt 126 (ptrTo g) 2).run Tryz.prog W = .ok (.pointer (some ⟨g,2,none⟩)) W:=by simp [Instr.fieldAt,go_sem]
theorem hzS : (Instr.alloc 177 true (.tuple #[])).run Tryz.prog W = .ok (ptrTo W.heap.size) (W.alloc (.cells #[vI vU 0,vI vU 0,vI vU 0,vI vU 0,vI vU 0,vI vU 0,vI vU 0,vI vU 0,vI vU 0,vI vU 0,vI vU 0,vI vU 0] 177)):=by simp [Instr.alloc,go_sem]
theorem hzK : (Instr.alloc 126 true (.tuple #[])).run Tryz.prog W = .ok (ptrTo W.heap.size) (W.alloc (.cells #[.nilFunc,.nilFunc,.nilFunc,.nilFunc] 126)):=by simp [Instr.alloc,go_sem]
theorem bldK (b : Nat) : (Instr.build 126 [(0,fv 110 b),(1,fv 111 b),(2,fv 89 b),(3,fv 87 b)].toArray).run Tryz.prog W = .ok (cv b) W:=by simp [Instr.build,go_sem,fv,cv,cc]
end
theorem he_kAdd (args : Array Value) (W : World) : (callFunc 110 args).run Tryz.prog W = .ok (.enter 110 args) W:=zad Tryz.func110 rfl rfl args W
theorem he_kSub (args : Array Value) (W : World) : (callFunc 111 args).run Tryz.prog W = .ok (.enter 111 args) W:=zad Tryz.func111 rfl rfl args W
theorem he_kMul (args : Array Value) (W : World) : (callFunc 89 args).run Tryz.prog W = .ok (.enter 89 args) W:=zad Tryz.func89 rfl rfl args W
theorem zdh {b : Nat} {x t : Fe} (ht : t = x + x) {w : World} (hF : Fp w b) :
  Calls Tryz.prog 141 #[cv b,nv x.val] w fun e w' => e = .returned (nv t.val) ∧ Ext w w':=by
 have kt:=veil ht
 clear ht
 exact auto0 Tryz.func141 [cv b,nv x.val] [
  .call _ _ _ fun W hW => kadd_p kt.out (hF.ext hW)] (nv t.val) (by kernel_rfl)
theorem trp_calls {b : Nat} {x t : Fe} (ht : t = x + x + x) {w : World} (hF : Fp w b) :
  Calls Tryz.prog 114 #[cv b,nv x.val] w fun e w' => e = .returned (nv t.val) ∧ Ext w w':=by
 obtain ⟨y,hy⟩ : ∃ t : Fe,t = x + x:=⟨_,rfl⟩
 rw [← hy] at ht
 have ky:=veil hy
 clear hy
 have kt:=veil ht
 clear ht
 exact auto0 Tryz.func114 [cv b,nv x.val] [
  .call _ _ _ fun W hW => zdh ky.out (hF.ext hW),
  .call _ _ _ fun W hW => kadd_p kt.out (hF.ext hW)] (nv t.val) (by kernel_rfl)
def twice3 (x y z : Fe) : Fe × Fe × Fe :=
 let zz : Fe:=z * z
 let yy : Fe:=y * y
 let s : Fe:=x - zz
 let u : Fe:=x + zz
 let su : Fe:=s * u
 let m : Fe:=su + su + su
 let q : Fe:=x * yy
 let q2 : Fe:=q + q
 let cr : Fe:=q2 + q2
 let mm : Fe:=m * m
 let c2 : Fe:=cr + cr
 let X : Fe:=mm - c2
 let e : Fe:=yy * yy
 let e2 : Fe:=e + e
 let e4 : Fe:=e2 + e2
 let tl : Fe:=e4 + e4
 let d : Fe:=cr - X
 let md : Fe:=m * d
 let Y : Fe:=md - tl
 let yz : Fe:=y * z
 let Z : Fe:=yz + yz
 (X,Y,Z)
theorem twice_calls {b : Nat} (x y z : Fe) {w : World} (hF : Fp w b) :
  Calls Tryz.prog 146 #[cv b,sv x.val y.val z.val] w fun e w' => e = .returned (sv (twice3 x y z).1.val (twice3 x y z).2.1.val (twice3 x y z).2.2.val) ∧ Ext w w':=by
 obtain ⟨zz,hzz⟩ : ∃ t : Fe,t = z * z:=⟨_,rfl⟩
 obtain ⟨yy,hyy⟩ : ∃ t : Fe,t = y * y:=⟨_,rfl⟩
 obtain ⟨s,hs⟩ : ∃ t : Fe,t = x - zz:=⟨_,rfl⟩
 obtain ⟨u,hu⟩ : ∃ t : Fe,t = x + zz:=⟨_,rfl⟩
 obtain ⟨su,hsu⟩ : ∃ t : Fe,t = s * u:=⟨_,rfl⟩
 obtain ⟨m,hm⟩ : ∃ t : Fe,t = su + su + su:=⟨_,rfl⟩
 obtain ⟨q,hq⟩ : ∃ t : Fe,t = x * yy:=⟨_,rfl⟩
 obtain ⟨q2,hq2⟩ : ∃ t : Fe,t = q + q:=⟨_,rfl⟩
 obtain ⟨cr,hcr⟩ : ∃ t : Fe,t = q2 + q2:=⟨_,rfl⟩
 obtain ⟨mm,hmm⟩ : ∃ t : Fe,t = m * m:=⟨_,rfl⟩
 obtain ⟨c2,hc2⟩ : ∃ t : Fe,t = cr + cr:=⟨_,rfl⟩
 obtain ⟨X,hX⟩ : ∃ t : Fe,t = mm - c2:=⟨_,rfl⟩
 obtain ⟨e,he⟩ : ∃ t : Fe,t = yy * yy:=⟨_,rfl⟩
 obtain ⟨e2,he2⟩ : ∃ t : Fe,t = e + e:=⟨_,rfl⟩
 obtain ⟨e4,he4⟩ : ∃ t : Fe,t = e2 + e2:=⟨_,rfl⟩
 obtain ⟨tl,htl⟩ : ∃ t : Fe,t = e4 + e4:=⟨_,rfl⟩
 obtain ⟨d,hd⟩ : ∃ t : Fe,t = cr - X:=⟨_,rfl⟩
 obtain ⟨md,hmd⟩ : ∃ t : Fe,t = m * d:=⟨_,rfl⟩
 obtain ⟨Y,hY⟩ : ∃ t : Fe,t = md - tl:=⟨_,rfl⟩
 obtain ⟨yz,hyz⟩ : ∃ t : Fe,t = y * z:=⟨_,rfl⟩
 obtain ⟨Z,hZ⟩ : ∃ t : Fe,t = yz + yz:=⟨_,rfl⟩
 have hfin : twice3 x y z = (X,Y,Z):=by
  subst hZ hyz hY hmd hd htl he4 he2 he hX hc2 hmm hcr hq2 hq hm hsu hu hs hyy hzz
  rfl
 rw [hfin]
 clear hfin
 have kzz:=veil hzz
 have kyy:=veil hyy
 have ks:=veil hs
 have ku:=veil hu
 have ksu:=veil hsu
 have km:=veil hm
 have kq:=veil hq
 have kq2:=veil hq2
 have kcr:=veil hcr
 have kmm:=veil hmm
 have kc2:=veil hc2
 have kX:=veil hX
 have ke:=veil he
 have ke2:=veil he2
 have ke4:=veil he4
 have ktl:=veil htl
 have kd:=veil hd
 have kmd:=veil hmd
 have kY:=veil hY
 have kyz:=veil hyz
 have kZ:=veil hZ
 clear hZ hyz hY hmd hd htl he4 he2 he hX hc2 hmm hcr hq2 hq hm hsu hu hs hyy hzz
 show Calls Tryz.prog 146 #[cv b,sv x.val y.val z.val] w fun e w' => e = .returned (sv X.val Y.val Z.val) ∧ Ext w w'
 exact auto0 Tryz.func146 [cv b,sv x.val y.val z.val] [
  .call _ _ _ fun W hW => zbn kzz.out (hF.ext hW),
  .call _ _ _ fun W hW => zbn kyy.out (hF.ext hW),
  .call _ _ _ fun W hW => zdv ks.out (hF.ext hW),
  .call _ _ _ fun W hW => kadd_p ku.out (hF.ext hW),
  .call _ _ _ fun W hW => zbn ksu.out (hF.ext hW),
  .call _ _ _ fun W hW => trp_calls km.out (hF.ext hW),
  .call _ _ _ fun W hW => zbn kq.out (hF.ext hW),
  .call _ _ _ fun W hW => zdh kq2.out (hF.ext hW),
  .call _ _ _ fun W hW => zdh kcr.out (hF.ext hW),
  .call _ _ _ fun W hW => zbn kmm.out (hF.ext hW),
  .call _ _ _ fun W hW => zdh kc2.out (hF.ext hW),
  .call _ _ _ fun W hW => zdv kX.out (hF.ext hW),
  .call _ _ _ fun W hW => zbn ke.out (hF.ext hW),
  .call _ _ _ fun W hW => zdh ke2.out (hF.ext hW),
  .call _ _ _ fun W hW => zdh ke4.out (hF.ext hW),
  .call _ _ _ fun W hW => zdh ktl.out (hF.ext hW),
  .call _ _ _ fun W hW => zdv kd.out (hF.ext hW),
  .call _ _ _ fun W hW => zbn kmd.out (hF.ext hW),
  .call _ _ _ fun W hW => zdv kY.out (hF.ext hW),
  .call _ _ _ fun W hW => zbn kyz.out (hF.ext hW),
  .call _ _ _ fun W hW => zdh kZ.out (hF.ext hW)] (sv X.val Y.val Z.val) (by kernel_rfl)
theorem pP_calls (w : World) : Calls Tryz.prog 109 #[] w fun e w' => e = .returned (.agg #[vI vU (wd (Pt.pp) 0),vI vU (wd (Pt.pp) 1),vI vU (wd (Pt.pp) 2),vI vU (wd (Pt.pp) 3)]) ∧ Below w.heap.size w w':=by
 obtain ⟨l0,l1,l2,l3⟩:=pp_lits
 rw [l0,l1,l2,l3]
 clear l0 l1 l2 l3
 go_enter Tryz.func109,Tryz.ntmps109
 go_wp2
 exact bodyPost_ret (results_cell_row rfl _ _ w.heap.size 27 #[vI vU 18446744073709551615,vI vU 4294967295,vI vU 0,vI vU 18446744069414584321] (0,0) _ rfl (heap_alloc_last w _) Tryz.underlying27 rfl (by kernel_rfl)) rfl ⟨rfl,(Below.refl _ _).alloc (Nat.le_refl _) _⟩
theorem pN_calls (w : World) : Calls Tryz.prog 119 #[] w fun e w' => e = .returned (.agg #[vI vU (wd (Pt.nn) 0),vI vU (wd (Pt.nn) 1),vI vU (wd (Pt.nn) 2),vI vU (wd (Pt.nn) 3)]) ∧ Below w.heap.size w w':=by
 obtain ⟨l0,l1,l2,l3⟩:=nn_lits
 rw [l0,l1,l2,l3]
 clear l0 l1 l2 l3
 go_enter Tryz.func119,Tryz.ntmps119
 go_wp2
 exact bodyPost_ret (results_cell_row rfl _ _ w.heap.size 27 #[vI vU 17562291160714782033,vI vU 13611842547513532036,vI vU 18446744073709551615,vI vU 18446744069414584320] (0,0) _ rfl (heap_alloc_last w _) Tryz.underlying27 rfl (by kernel_rfl)) rfl ⟨rfl,(Below.refl _ _).alloc (Nat.le_refl _) _⟩
theorem bb_calls (w : World) : Calls Tryz.prog 115 #[] w fun e w' => e = .returned (.agg #[vI vU (wd (Pt.bb) 0),vI vU (wd (Pt.bb) 1),vI vU (wd (Pt.bb) 2),vI vU (wd (Pt.bb) 3)]) ∧ Below w.heap.size w w':=by
 obtain ⟨l0,l1,l2,l3⟩:=bb_lits
 rw [l0,l1,l2,l3]
 clear l0 l1 l2 l3
 go_enter Tryz.func115,Tryz.ntmps115
 go_wp2
 exact bodyPost_ret (results_cell_row rfl _ _ w.heap.size 27 #[vI vU 4309448131093880907,vI vU 7285987128567378166,vI vU 12964664127075681980,vI vU 6540974713487397863] (0,0) _ rfl (heap_alloc_last w _) Tryz.underlying27 rfl (by kernel_rfl)) rfl ⟨rfl,(Below.refl _ _).alloc (Nat.le_refl _) _⟩
theorem isz_calls (X : Nat) (hX : X < top) (w : World) :
  Calls Tryz.prog 112 #[nv X] w fun e w' => e = .returned (.bool (decide (X = 0))) ∧ Ext w w':=by
 unfold nv nc
 have kq:=fun W => eql_zero hX W
 obtain ⟨q,hq⟩ : ∃ q,q = decide (X = 0):=⟨_,rfl⟩
 rw [← hq] at kq ⊢
 have hA : (w.alloc (.cells #[vI vU (wd X 0),vI vU (wd X 1),vI vU (wd X 2),vI vU (wd X 3)] 27)).rowIs w.heap.size 27 4 (fun j => .int .u64 (wd X j)):=zae (n:=4) (by simp) rfl (arr4 fun j => .int .u64 (wd X j))
 obtain ⟨c0,c1,c2,c3⟩:=zac hA
 clear hq hX hA
 go_enter Tryz.func112,Tryz.ntmps112
 go_wp2
 go_ret
 exact ⟨rfl,(Below.refl _ _).alloc (Nat.le_refl _) _⟩
theorem isz_no {X : Nat} (h : X ≠ 0) (hX : X < top) (w : World) : Calls Tryz.prog 112 #[nv X] w fun e w' => e = .returned (.bool false) ∧ Ext w w':=by
 have k:=isz_calls X hX w
 rwa [decide_eq_false h] at k
theorem zku {X : Nat} (h : X = 0) (w : World) : Calls Tryz.prog 112 #[nv X] w fun e w' => e = .returned (.bool true) ∧ Ext w w':=by
 have k:=isz_calls X (by rw [h]; exact Nat.two_pow_pos 256) w
 rwa [decide_eq_true h] at k
section
variable {P : Program} {o : Oper} {a : Act} {w : World}
end
theorem cmp_in {X : Nat} (h : X < Pt.pp) (w : World) : Calls Tryz.prog 113 #[nv X,nv Pt.pp] w fun e w' => e = .returned (.int .i64 (-1)) ∧ Ext w w' :=
 kcmp X Pt.pp (-1) (by unfold cmpN; rw [if_pos h]) (Nat.lt_trans h zbb) zbb w
theorem cmp_no {X : Nat} (hX : X < top) (w : World) : Calls Tryz.prog 113 #[nv X,nv Pt.pp] w fun e w' => e = .returned (.int .i64 (cmpN X Pt.pp)) ∧ Ext w w' :=
 kcmp X Pt.pp _ rfl hX zbb w
theorem cmp_no_ge {X : Nat} (h : ¬ X < Pt.pp) : decide (0 ≤ cmpN X Pt.pp) = true:=by
 have:=cmp_ge X Pt.pp
 simp only [this,h,not_false_eq_true,decide_true]
theorem pP_is (w : World) : Calls Tryz.prog 109 #[] w fun e w' => e = .returned (nv Pt.pp) ∧ Ext w w':=pP_calls w
theorem bb_is (w : World) : Calls Tryz.prog 115 #[] w fun e w' => e = .returned (nv (Pt.F Pt.bb : Fe).val) ∧ Ext w w':=by
 have h : (Pt.F Pt.bb : Fe).val = Pt.bb:=Nat.mod_eq_of_lt bb_lt
 rw [h]
 exact bb_calls w
theorem zik (w : World) : Calls Tryz.prog 77 #[] w fun e w' => ∃ b,e = .returned (cv b) ∧ Fp w' b ∧ Ext w w':=by
 have hp : Pt.pp % 2 = 1:=by decide +kernel
 have hp2 : 2 < Pt.pp:=by decide +kernel
 have K1:=veil (fun W => new_good Pt.pp hp hp2 zbb W)
 have K0:=veil pP_calls
 clear hp hp2
 generalize hM : Pt.pp = M at K0 K1
 go_enter Tryz.func77,Tryz.ntmps77
 go_wp2_with fail
 refine (K0.out _).mono ?_
 rintro e w1 ⟨rfl,hb1⟩
 go_wp2_with fail
 refine (K1.out _).mono ?_
 rintro e w2 ⟨⟨b,N,Q,hK,hF,hle,rfl⟩,hb2⟩
 have hx : Ext w w2:=(Ext.alloc w _).trans (Ext.trans hb1 hb2)
 have hf : Fp w2 b:=⟨N,Q,hM ▸ hK,hM ▸ hF⟩
 have b0 : w2.heap[w.heap.size]? = some (.cells #[.nilFunc,.nilFunc,.nilFunc,.nilFunc] 126 (0,0)):=Ext.block (Ext.trans hb1 hb2) (zee (w:=w) rfl)
 have hne : w.heap.size < b:=by have h1:=hb1.size; simp at h1; omega
 clear hK hF hM K0 K1 hb1 hb2 hle
 go_upto_region 2 with (fail)
 refine' zbc (m:=9) (A:=_) (by kernel_rfl) ?h1 ?h2
 case h1 =>
  refine zab (ptrTo b) rfl (zaj (.inl rfl) rfl) ?_
  refine zab (fv 110 b) rfl (ziz rfl rfl) ?_;simp only [aP,lA,lZ,lS]
  refine zab (ptrTo b) rfl (zaj (.inl rfl) rfl) ?_
  refine zab (fv 111 b) rfl (ziz rfl rfl) ?_;simp only [aP,lA,lZ,lS]
  refine zab (ptrTo b) rfl (zaj (.inl rfl) rfl) ?_
  refine zab (fv 89 b) rfl (ziz rfl rfl) ?_;simp only [aP,lA,lZ,lS]
  refine zab (ptrTo b) rfl (zaj (.inl rfl) rfl) ?_
  refine zab (fv 87 b) rfl (ziz rfl rfl) ?_;simp only [aP,lA,lZ,lS]
  refine zab (cv b) rfl (zcd (vs:=[(0,fv 110 b),(1,fv 111 b),(2,fv 89 b),(3,fv 87 b)]) rfl rfl (fun W => bldK W _)) ?_;simp only [aP,lA,lZ,lS]
  exact zaw
 refine zda _ rfl rfl rfl rfl rfl rfl b0 (iK _) rfl (cc_one _) ?_
 intro w3 hB hb
 go_wp2
 have hf' : Fp w3 b:=by
  obtain ⟨N,Q,h1,h2⟩:=hf
  exact ⟨N,Q,h1,h2.of_block (hB.block b h2.lt (by intro e; simp at e; omega))⟩
 exact bodyPost_ret (results_cell_row rfl _ _ w.heap.size 126 (cc b) (0,0) _ rfl hb Tryz.underlying126 rfl (by kernel_rfl)) rfl ⟨b,rfl,hf',hx.new hB (Nat.le_refl _)⟩
theorem lift_far (x y : Nat) (w : World) :
  Calls Tryz.prog 144 #[qv x y true] w fun e w' => e = .returned (sv 0 0 0) ∧ Ext w w':=by
 exact auto0 Tryz.func144 [qv x y true] [] (sv 0 0 0) (by kernel_rfl)
theorem lift_near (x y : Nat) (w : World) :
  Calls Tryz.prog 144 #[qv x y false] w fun e w' => e = .returned (sv x y 1) ∧ Ext w w':=by
 exact auto0 Tryz.func144 [qv x y false] [] (sv x y 1) (by kernel_rfl)
theorem base_calls (w : World) :
  Calls Tryz.prog 20 #[] w fun e w' => e = .returned (qv Pt.gx Pt.gy false) ∧ Ext w w':=by
 exact auto0 Tryz.func20 [] [] (qv Pt.gx Pt.gy false) (by kernel_rfl)
theorem plus_far {b : Nat} (x y z X Y : Nat) {w : World} (_hF : Fp w b) :
  Calls Tryz.prog 147 #[cv b,sv x y z,qv X Y true] w fun e w' => e = .returned (sv x y z) ∧ Ext w w':=by
 exact auto0 Tryz.func147 [cv b,sv x y z,qv X Y true] [] (sv x y z) (by kernel_rfl)
theorem plus_lift {b : Nat} (x y X Y : Nat) {w : World} (_hF : Fp w b) :
  Calls Tryz.prog 147 #[cv b,sv x y 0,qv X Y false] w fun e w' => e = .returned (sv X Y 1) ∧ Ext w w':=by
 exact auto0 Tryz.func147 [cv b,sv x y 0,qv X Y false] [
  .call _ _ _ fun W _ => zku rfl W,
  .call _ _ _ fun W _ => lift_near X Y W] (sv X Y 1) (by kernel_rfl)
def runOf (x z X : Fe) : Fe:=X * (z * z) - x
def riseOf (y z Y : Fe) : Fe:=Y * (z * z * z) - y
def plus3 (x y z X Y : Fe) : Fe × Fe × Fe :=
 let zz : Fe:=z * z
 let u : Fe:=X * zz
 let run : Fe:=u - x
 let zzz : Fe:=zz * z
 let v : Fe:=Y * zzz
 let rise : Fe:=v - y
 let sq : Fe:=run * run
 let cube : Fe:=sq * run
 let cross : Fe:=x * sq
 let rr : Fe:=rise * rise
 let r1 : Fe:=rr - cube
 let c2 : Fe:=cross + cross
 let x3 : Fe:=r1 - c2
 let d : Fe:=cross - x3
 let rd : Fe:=rise * d
 let yc : Fe:=y * cube
 let y3 : Fe:=rd - yc
 let z3 : Fe:=z * run
 (x3,y3,z3)
theorem plus_same {b : Nat} (x y z X Y : Fe) (hz : z.val ≠ 0) (hr : (runOf x z X).val = 0) (hs : (riseOf y z Y).val = 0) {w : World} (hF : Fp w b) :
  Calls Tryz.prog 147 #[cv b,sv x.val y.val z.val,qv X.val Y.val false] w fun e w' => e = .returned (sv (twice3 x y z).1.val (twice3 x y z).2.1.val (twice3 x y z).2.2.val) ∧ Ext w w':=by
 obtain ⟨zz,hzz⟩ : ∃ t : Fe,t = z * z:=⟨_,rfl⟩
 obtain ⟨u,hu⟩ : ∃ t : Fe,t = X * zz:=⟨_,rfl⟩
 obtain ⟨run,hrun⟩ : ∃ t : Fe,t = u - x:=⟨_,rfl⟩
 obtain ⟨zzz,hzzz⟩ : ∃ t : Fe,t = zz * z:=⟨_,rfl⟩
 obtain ⟨v,hv⟩ : ∃ t : Fe,t = Y * zzz:=⟨_,rfl⟩
 obtain ⟨rise,hrise⟩ : ∃ t : Fe,t = v - y:=⟨_,rfl⟩
 have h1 : runOf x z X = run:=by subst hrun hu hzz; rfl
 have h2 : riseOf y z Y = rise:=by subst hrise hv hzzz hzz; rfl
 rw [h1] at hr
 rw [h2] at hs
 clear h1 h2
 have kzz:=veil hzz
 have ku:=veil hu
 have krun:=veil hrun
 have kzzz:=veil hzzz
 have kv:=veil hv
 have krise:=veil hrise
 clear hrise hv hzzz hrun hu hzz
 have kz0:=veil hz
 have kr:=veil hr
 have ks:=veil hs
 clear hz hr hs
 obtain ⟨X3,Y3,Z3,h3⟩ : ∃ X3 Y3 Z3,twice3 x y z = (X3,Y3,Z3):=⟨_,_,_,rfl⟩
 have KT:=veil (fun W (hF : Fp W b) => twice_calls x y z hF)
 rw [h3] at KT ⊢
 clear h3
 show Calls Tryz.prog 147 #[cv b,sv x.val y.val z.val,qv X.val Y.val false] w fun e w' => e = .returned (sv X3.val Y3.val Z3.val) ∧ Ext w w'
 exact auto0 Tryz.func147 [cv b,sv x.val y.val z.val,qv X.val Y.val false] [
  .call _ _ _ fun W _ => isz_no kz0.out (zef _) W,
  .call _ _ _ fun W hW => zbn kzz.out (hF.ext hW),
  .call _ _ _ fun W hW => zbn ku.out (hF.ext hW),
  .call _ _ _ fun W hW => zdv krun.out (hF.ext hW),
  .call _ _ _ fun W hW => zbn kzzz.out (hF.ext hW),
  .call _ _ _ fun W hW => zbn kv.out (hF.ext hW),
  .call _ _ _ fun W hW => zdv krise.out (hF.ext hW),
  .call _ _ _ fun W _ => zku kr.out W,
  .call _ _ _ fun W _ => zku ks.out W,
  .call _ _ _ fun W hW => KT.out W (hF.ext hW)] (sv X3.val Y3.val Z3.val) (by kernel_rfl)
theorem plus_opp {b : Nat} (x y z X Y : Fe) (hz : z.val ≠ 0) (hr : (runOf x z X).val = 0) (hs : (riseOf y z Y).val ≠ 0) {w : World} (hF : Fp w b) :
  Calls Tryz.prog 147 #[cv b,sv x.val y.val z.val,qv X.val Y.val false] w fun e w' => e = .returned (sv 0 0 0) ∧ Ext w w':=by
 obtain ⟨zz,hzz⟩ : ∃ t : Fe,t = z * z:=⟨_,rfl⟩
 obtain ⟨u,hu⟩ : ∃ t : Fe,t = X * zz:=⟨_,rfl⟩
 obtain ⟨run,hrun⟩ : ∃ t : Fe,t = u - x:=⟨_,rfl⟩
 obtain ⟨zzz,hzzz⟩ : ∃ t : Fe,t = zz * z:=⟨_,rfl⟩
 obtain ⟨v,hv⟩ : ∃ t : Fe,t = Y * zzz:=⟨_,rfl⟩
 obtain ⟨rise,hrise⟩ : ∃ t : Fe,t = v - y:=⟨_,rfl⟩
 have h1 : runOf x z X = run:=by subst hrun hu hzz; rfl
 have h2 : riseOf y z Y = rise:=by subst hrise hv hzzz hzz; rfl
 rw [h1] at hr
 rw [h2] at hs
 clear h1 h2
 have kzz:=veil hzz
 have ku:=veil hu
 have krun:=veil hrun
 have kzzz:=veil hzzz
 have kv:=veil hv
 have krise:=veil hrise
 clear hrise hv hzzz hrun hu hzz
 have kz0:=veil hz
 have kr:=veil hr
 have ks:=veil hs
 clear hz hr hs
 exact auto0 Tryz.func147 [cv b,sv x.val y.val z.val,qv X.val Y.val false] [
  .call _ _ _ fun W _ => isz_no kz0.out (zef _) W,
  .call _ _ _ fun W hW => zbn kzz.out (hF.ext hW),
  .call _ _ _ fun W hW => zbn ku.out (hF.ext hW),
  .call _ _ _ fun W hW => zdv krun.out (hF.ext hW),
  .call _ _ _ fun W hW => zbn kzzz.out (hF.ext hW),
  .call _ _ _ fun W hW => zbn kv.out (hF.ext hW),
  .call _ _ _ fun W hW => zdv krise.out (hF.ext hW),
  .call _ _ _ fun W _ => zku kr.out W,
  .call _ _ _ fun W _ => isz_no ks.out (zef _) W] (sv 0 0 0) (by kernel_rfl)
theorem plus_else {b : Nat} (x y z X Y : Fe) (hz : z.val ≠ 0) (hr : (runOf x z X).val ≠ 0) {w : World} (hF : Fp w b) :
  Calls Tryz.prog 147 #[cv b,sv x.val y.val z.val,qv X.val Y.val false] w fun e w' => e = .returned (sv (plus3 x y z X Y).1.val (plus3 x y z X Y).2.1.val (plus3 x y z X Y).2.2.val) ∧ Ext w w':=by
 obtain ⟨zz,hzz⟩ : ∃ t : Fe,t = z * z:=⟨_,rfl⟩
 obtain ⟨u,hu⟩ : ∃ t : Fe,t = X * zz:=⟨_,rfl⟩
 obtain ⟨run,hrun⟩ : ∃ t : Fe,t = u - x:=⟨_,rfl⟩
 obtain ⟨zzz,hzzz⟩ : ∃ t : Fe,t = zz * z:=⟨_,rfl⟩
 obtain ⟨v,hv⟩ : ∃ t : Fe,t = Y * zzz:=⟨_,rfl⟩
 obtain ⟨rise,hrise⟩ : ∃ t : Fe,t = v - y:=⟨_,rfl⟩
 obtain ⟨sq,hsq⟩ : ∃ t : Fe,t = run * run:=⟨_,rfl⟩
 obtain ⟨cube,hcube⟩ : ∃ t : Fe,t = sq * run:=⟨_,rfl⟩
 obtain ⟨cross,hcross⟩ : ∃ t : Fe,t = x * sq:=⟨_,rfl⟩
 obtain ⟨rr,hrr⟩ : ∃ t : Fe,t = rise * rise:=⟨_,rfl⟩
 obtain ⟨r1,hr1⟩ : ∃ t : Fe,t = rr - cube:=⟨_,rfl⟩
 obtain ⟨c2,hc2⟩ : ∃ t : Fe,t = cross + cross:=⟨_,rfl⟩
 obtain ⟨x3,hx3⟩ : ∃ t : Fe,t = r1 - c2:=⟨_,rfl⟩
 obtain ⟨d,hd⟩ : ∃ t : Fe,t = cross - x3:=⟨_,rfl⟩
 obtain ⟨rd,hrd⟩ : ∃ t : Fe,t = rise * d:=⟨_,rfl⟩
 obtain ⟨yc,hyc⟩ : ∃ t : Fe,t = y * cube:=⟨_,rfl⟩
 obtain ⟨y3,hy3⟩ : ∃ t : Fe,t = rd - yc:=⟨_,rfl⟩
 obtain ⟨z3,hz3⟩ : ∃ t : Fe,t = z * run:=⟨_,rfl⟩
 have h1 : runOf x z X = run:=by subst hrun hu hzz; rfl
 rw [h1] at hr
 clear h1
 have hfin : plus3 x y z X Y = (x3,y3,z3):=by
  subst hz3 hy3 hyc hrd hd hx3 hc2 hr1 hrr hcross hcube hsq hrise hv hzzz hrun hu hzz
  rfl
 rw [hfin]
 clear hfin
 have kzz:=veil hzz
 have ku:=veil hu
 have krun:=veil hrun
 have kzzz:=veil hzzz
 have kv:=veil hv
 have krise:=veil hrise
 have ksq:=veil hsq
 have kcube:=veil hcube
 have kcross:=veil hcross
 have krr:=veil hrr
 have kr1:=veil hr1
 have kc2:=veil hc2
 have kx3:=veil hx3
 have kd:=veil hd
 have krd:=veil hrd
 have kyc:=veil hyc
 have ky3:=veil hy3
 have kz3:=veil hz3
 clear hz3 hy3 hyc hrd hd hx3 hc2 hr1 hrr hcross hcube hsq hrise hv hzzz hrun hu hzz
 have kz0:=veil hz
 have kr:=veil hr
 clear hz hr
 show Calls Tryz.prog 147 #[cv b,sv x.val y.val z.val,qv X.val Y.val false] w fun e w' => e = .returned (sv x3.val y3.val z3.val) ∧ Ext w w'
 exact auto0 Tryz.func147 [cv b,sv x.val y.val z.val,qv X.val Y.val false] [
  .call _ _ _ fun W _ => isz_no kz0.out (zef _) W,
  .call _ _ _ fun W hW => zbn kzz.out (hF.ext hW),
  .call _ _ _ fun W hW => zbn ku.out (hF.ext hW),
  .call _ _ _ fun W hW => zdv krun.out (hF.ext hW),
  .call _ _ _ fun W hW => zbn kzzz.out (hF.ext hW),
  .call _ _ _ fun W hW => zbn kv.out (hF.ext hW),
  .call _ _ _ fun W hW => zdv krise.out (hF.ext hW),
  .call _ _ _ fun W _ => isz_no kr.out (zef _) W,
  .call _ _ _ fun W hW => zbn ksq.out (hF.ext hW),
  .call _ _ _ fun W hW => zbn kcube.out (hF.ext hW),
  .call _ _ _ fun W hW => zbn kcross.out (hF.ext hW),
  .call _ _ _ fun W hW => zbn krr.out (hF.ext hW),
  .call _ _ _ fun W hW => zdv kr1.out (hF.ext hW),
  .call _ _ _ fun W hW => zdh kc2.out (hF.ext hW),
  .call _ _ _ fun W hW => zdv kx3.out (hF.ext hW),
  .call _ _ _ fun W hW => zdv kd.out (hF.ext hW),
  .call _ _ _ fun W hW => zbn krd.out (hF.ext hW),
  .call _ _ _ fun W hW => zbn kyc.out (hF.ext hW),
  .call _ _ _ fun W hW => zdv ky3.out (hF.ext hW),
  .call _ _ _ fun W hW => zbn kz3.out (hF.ext hW)] (sv x3.val y3.val z3.val) (by kernel_rfl)
theorem flat_far {b : Nat} (x y : Nat) {w : World} (hF : Fp w b) :
  Calls Tryz.prog 148 #[cv b,sv x y 0] w fun e w' => e = .returned (qv 0 0 true) ∧ Ext w w':=by
 exact auto0 Tryz.func148 [cv b,sv x y 0] [
  .call _ _ _ fun W hW => kinv_z (hF.ext hW)] (qv 0 0 true) (by kernel_rfl)
def flat2 (x y z : Fe) : Fe × Fe:=(x * (Pt.E256.inv z * Pt.E256.inv z),y * (Pt.E256.inv z * Pt.E256.inv z * Pt.E256.inv z))
theorem flat_near {b : Nat} (x y z : Fe) (hz : z ≠ 0) {w : World} (hF : Fp w b) :
  Calls Tryz.prog 148 #[cv b,sv x.val y.val z.val] w fun e w' => e = .returned (qv (flat2 x y z).1.val (flat2 x y z).2.val false) ∧ Ext w w':=by
 obtain ⟨iv,hiv⟩ : ∃ t : Fe,t = Pt.E256.inv z:=⟨_,rfl⟩
 obtain ⟨sq,hsq⟩ : ∃ t : Fe,t = iv * iv:=⟨_,rfl⟩
 obtain ⟨X,hX⟩ : ∃ t : Fe,t = x * sq:=⟨_,rfl⟩
 obtain ⟨cb,hcb⟩ : ∃ t : Fe,t = sq * iv:=⟨_,rfl⟩
 obtain ⟨Y,hY⟩ : ∃ t : Fe,t = y * cb:=⟨_,rfl⟩
 have hfin : flat2 x y z = (X,Y):=by
  unfold flat2
  rw [hY,hcb,hX,hsq,hiv]
 rw [hfin]
 clear hfin
 have kiv:=veil hiv
 have ksq:=veil hsq
 have kX:=veil hX
 have kcb:=veil hcb
 have kY:=veil hY
 clear hY hcb hX hsq hiv
 have kz0:=veil hz
 clear hz
 show Calls Tryz.prog 148 #[cv b,sv x.val y.val z.val] w fun e w' => e = .returned (qv X.val Y.val false) ∧ Ext w w'
 exact auto0 Tryz.func148 [cv b,sv x.val y.val z.val] [
  .call _ _ _ fun W hW => kinv_p kz0.out kiv.out (hF.ext hW),
  .call _ _ _ fun W hW => zbn ksq.out (hF.ext hW),
  .call _ _ _ fun W hW => zbn kX.out (hF.ext hW),
  .call _ _ _ fun W hW => zbn kcb.out (hF.ext hW),
  .call _ _ _ fun W hW => zbn kY.out (hF.ext hW)] (qv X.val Y.val false) (by kernel_rfl)
theorem on_far0 {b : Nat} (Y : Nat) (hY : Y < top) {w : World} (hF : Fp w b) :
  Calls Tryz.prog 78 #[cv b,qv 0 Y true] w fun e w' => e = .returned (.bool (decide (Y = 0))) ∧ Ext w w':=by
 have kY:=veil hY
 clear hY
 obtain ⟨q,hq⟩ : ∃ q,q = decide (Y = 0):=⟨_,rfl⟩
 rw [← hq]
 have kq:=veil hq
 clear hq
 unfold cv qv cc fv qc
 go_enter Tryz.func78,Tryz.ntmps78
 go_upto_region 1 with (fail)
 refine zgd fun w1 hx b0 b1 => ?_
 have b0 : w1.heap[w.heap.size]? = some (.cells (cc b) 126 (0,0)):=b0
 have b1 : w1.heap[w.heap.size + 1]? = some (.cells (qc 0 Y true) 29 (0,0)):=b1
 have hf:=hF.ext hx
 clear hF
 refine' zbc (m:=2) (A:=_) (by kernel_rfl) ?h1 ?h2
 case h1 =>
  refine zab (.pointer (some ⟨w.heap.size + 1,8,none⟩)) rfl (zan rfl rfl (fldT2 _ ·)) ?_
  refine zab (.bool true) rfl (zbe rfl rfl b1 rfl (zce ·)) ?_;simp only [aP,lA,lZ,lS]
  exact zaw
 refine zbi rfl ?_
 intro w2 hE
 replace b1:=hE.block b1
 replace hf:=hf.ext hE
 replace hx:=hx.trans hE
 clear hE
 go_upto_region 2 with (fail)
 refine' zdd (m:=9) (A:=_) ?h2a ?h2b
 case h2a =>
  refine zab (ptrTo (w.heap.size + 1)) rfl (zan rfl rfl (fldT0 _ ·)) ?_
  refine zab (nv 0) rfl (zag rfl rfl b1 rfl uN rfl (iN _)) ?_;simp only [aP,lA,lZ,lS]
  refine zab (.bool true) rfl (zak (args:=[nv 0]) rfl rfl (fun W => zad Tryz.func112 rfl rfl _ W) (fun W hW => zku rfl W)) ?_
  refine zab (.bool true) rfl (zaj (.inl rfl) rfl) ?_;simp only [aP,lA,lZ,lS]
  refine zam (.pointer (some ⟨w.heap.size + 1,4,none⟩)) rfl (zan rfl rfl (fldT1 _ ·)) ?_
  refine zam (nv Y) rfl (zag rfl rfl b1 rfl uN rfl (iN _)) ?_;simp only [aP,lA,lZ,lS]
  refine zam (.bool q) rfl (zak (args:=[nv Y]) rfl rfl (fun W => zad Tryz.func112 rfl rfl _ W) (fun W hW => by rw [kq.out]; exact isz_calls Y kY.out W)) ?_
  refine zab (.bool q) rfl (zax rfl rfl rfl) ?_;simp only [aP,lA,lZ,lS]
  refine zab (.bool q) rfl (zaj (.inr rfl) rfl) ?_;simp only [aP,lA,lZ,lS]
  exact zaw
 refine zbi rfl ?_
 intro w3 hE
 replace hf:=hf.ext hE
 replace hx:=hx.trans hE
 clear hE
 go_wp2
 go_ret
 exact ⟨rfl,hx⟩
theorem on_far1 {b : Nat} (X Y : Nat) (hX : X < top) (h0 : X ≠ 0) {w : World} (hF : Fp w b) :
  Calls Tryz.prog 78 #[cv b,qv X Y true] w fun e w' => e = .returned (.bool false) ∧ Ext w w':=by
 have kX:=veil hX
 have k0:=veil h0
 clear hX h0
 unfold cv qv cc fv qc
 go_enter Tryz.func78,Tryz.ntmps78
 go_upto_region 1 with (fail)
 refine zgd fun w1 hx b0 b1 => ?_
 have b0 : w1.heap[w.heap.size]? = some (.cells (cc b) 126 (0,0)):=b0
 have b1 : w1.heap[w.heap.size + 1]? = some (.cells (qc X Y true) 29 (0,0)):=b1
 have hf:=hF.ext hx
 clear hF
 refine' zbc (m:=2) (A:=_) (by kernel_rfl) ?h1 ?h2
 case h1 =>
  refine zab (.pointer (some ⟨w.heap.size + 1,8,none⟩)) rfl (zan rfl rfl (fldT2 _ ·)) ?_
  refine zab (.bool true) rfl (zbe rfl rfl b1 rfl (zce ·)) ?_;simp only [aP,lA,lZ,lS]
  exact zaw
 refine zbi rfl ?_
 intro w2 hE
 replace b1:=hE.block b1
 replace hf:=hf.ext hE
 replace hx:=hx.trans hE
 clear hE
 go_upto_region 2 with (fail)
 refine' zdd (m:=9) (A:=_) ?h2a ?h2b
 case h2a =>
  refine zab (ptrTo (w.heap.size + 1)) rfl (zan rfl rfl (fldT0 _ ·)) ?_
  refine zab (nv X) rfl (zag rfl rfl b1 rfl uN rfl (iN _)) ?_;simp only [aP,lA,lZ,lS]
  refine zab (.bool false) rfl (zak (args:=[nv X]) rfl rfl (fun W => zad Tryz.func112 rfl rfl _ W) (fun W hW => isz_no k0.out kX.out W)) ?_
  refine zab (.bool false) rfl (zaj (.inl rfl) rfl) ?_;simp only [aP,lA,lZ,lS]
  refine zav rfl ?_
  refine zav rfl ?_;simp only [aP,lA,lZ,lS]
  refine zav rfl ?_
  refine zab (.bool false) rfl (zax rfl rfl rfl) ?_;simp only [aP,lA,lZ,lS]
  refine zab (.bool false) rfl (zaj (.inr rfl) rfl) ?_;simp only [aP,lA,lZ,lS]
  exact zaw
 refine zbi rfl ?_
 intro w3 hE
 replace hf:=hf.ext hE
 replace hx:=hx.trans hE
 clear hE
 go_wp2
 go_ret
 exact ⟨rfl,hx⟩
theorem on_out {b : Nat} (X Y : Nat) (hX : X < top) (h0 : ¬ X < Pt.pp) {w : World} (hF : Fp w b) :
  Calls Tryz.prog 78 #[cv b,qv X Y false] w fun e w' => e = .returned (.bool false) ∧ Ext w w':=by
 have kX:=veil hX
 have k0:=veil h0
 clear hX h0
 unfold cv qv cc fv qc
 go_enter Tryz.func78,Tryz.ntmps78
 go_upto_region 1 with (fail)
 refine zgd fun w1 hx b0 b1 => ?_
 have b0 : w1.heap[w.heap.size]? = some (.cells (cc b) 126 (0,0)):=b0
 have b1 : w1.heap[w.heap.size + 1]? = some (.cells (qc X Y false) 29 (0,0)):=b1
 have hf:=hF.ext hx
 clear hF
 refine' zbc (m:=2) (A:=_) (by kernel_rfl) ?h1 ?h2
 case h1 =>
  refine zab (.pointer (some ⟨w.heap.size + 1,8,none⟩)) rfl (zan rfl rfl (fldT2 _ ·)) ?_
  refine zab (.bool false) rfl (zbe rfl rfl b1 rfl (zce ·)) ?_;simp only [aP,lA,lZ,lS]
  exact zaw
 refine zbi rfl ?_
 intro w2 hE
 replace b1:=hE.block b1
 replace hf:=hf.ext hE
 replace hx:=hx.trans hE
 clear hE
 go_upto_region 3 with (fail)
 refine' zch (m:=12) (A:=_) 12 (by kernel_rfl) (by kernel_rfl) ?h2a ?h2b
 case h2a =>
  refine zab (ptrTo (w.heap.size + 1)) rfl (zan rfl rfl (fldT0 _ ·)) ?_
  refine zab (nv X) rfl (zag rfl rfl b1 rfl uN rfl (iN _)) ?_;simp only [aP,lA,lZ,lS]
  refine zab (nv Pt.pp) rfl (zak (args:=[]) rfl rfl (fun W => zad Tryz.func109 rfl rfl _ W) (fun W hW => pP_is W)) ?_
  refine zab (.int .i64 (cmpN X Pt.pp)) rfl (zak (args:=[nv X,nv Pt.pp]) rfl rfl (fun W => zad Tryz.func113 rfl rfl _ W) (fun W hW => cmp_no kX.out W)) ?_;simp only [aP,lA,lZ,lS]
  refine zab (.bool true) rfl (zib rfl rfl (cmp_no_ge k0.out)) ?_
  refine zab (.bool true) rfl (zaj (.inl rfl) rfl) ?_;simp only [aP,lA,lZ,lS]
  refine zav rfl ?_
  refine zav rfl ?_;simp only [aP,lA,lZ,lS]
  refine zav rfl ?_
  refine zav rfl ?_;simp only [aP,lA,lZ,lS]
  refine zav rfl ?_
  refine zab (.bool true) rfl (zax rfl rfl rfl) ?_;simp only [aP,lA,lZ,lS]
  exact zaw
 refine zby rfl (by kernel_rfl) ?_
 intro w3 hE
 refine NoPanic.normal ?_
 replace hf:=hf.ext hE
 replace hx:=hx.trans hE
 clear hE
 go_wp2
 go_ret
 exact ⟨rfl,hx⟩
theorem on_high {b : Nat} (X Y : Nat) (hX : X < Pt.pp) (hY : Y < top) (h0 : ¬ Y < Pt.pp) {w : World} (hF : Fp w b) :
  Calls Tryz.prog 78 #[cv b,qv X Y false] w fun e w' => e = .returned (.bool false) ∧ Ext w w':=by
 have kX:=veil hX
 have kY:=veil hY
 have k0:=veil h0
 clear hX hY h0
 unfold cv qv cc fv qc
 go_enter Tryz.func78,Tryz.ntmps78
 go_upto_region 1 with (fail)
 refine zgd fun w1 hx b0 b1 => ?_
 have b0 : w1.heap[w.heap.size]? = some (.cells (cc b) 126 (0,0)):=b0
 have b1 : w1.heap[w.heap.size + 1]? = some (.cells (qc X Y false) 29 (0,0)):=b1
 have hf:=hF.ext hx
 clear hF
 refine' zbc (m:=2) (A:=_) (by kernel_rfl) ?h1 ?h2
 case h1 =>
  refine zab (.pointer (some ⟨w.heap.size + 1,8,none⟩)) rfl (zan rfl rfl (fldT2 _ ·)) ?_
  refine zab (.bool false) rfl (zbe rfl rfl b1 rfl (zce ·)) ?_;simp only [aP,lA,lZ,lS]
  exact zaw
 refine zbi rfl ?_
 intro w2 hE
 replace b1:=hE.block b1
 replace hf:=hf.ext hE
 replace hx:=hx.trans hE
 clear hE
 go_upto_region 3 with (fail)
 refine' zch (m:=12) (A:=_) 12 (by kernel_rfl) (by kernel_rfl) ?h2a ?h2b
 case h2a =>
  refine zab (ptrTo (w.heap.size + 1)) rfl (zan rfl rfl (fldT0 _ ·)) ?_
  refine zab (nv X) rfl (zag rfl rfl b1 rfl uN rfl (iN _)) ?_;simp only [aP,lA,lZ,lS]
  refine zab (nv Pt.pp) rfl (zak (args:=[]) rfl rfl (fun W => zad Tryz.func109 rfl rfl _ W) (fun W hW => pP_is W)) ?_
  refine zab (.int .i64 (-1)) rfl (zak (args:=[nv X,nv Pt.pp]) rfl rfl (fun W => zad Tryz.func113 rfl rfl _ W) (fun W hW => cmp_in kX.out W)) ?_;simp only [aP,lA,lZ,lS]
  refine zab (.bool false) rfl (zib rfl rfl (by decide)) ?_
  refine zab (.bool false) rfl (zaj (.inl rfl) rfl) ?_;simp only [aP,lA,lZ,lS]
  refine zam (.pointer (some ⟨w.heap.size + 1,4,none⟩)) rfl (zan rfl rfl (fldT1 _ ·)) ?_
  refine zam (nv Y) rfl (zag rfl rfl b1 rfl uN rfl (iN _)) ?_;simp only [aP,lA,lZ,lS]
  refine zam (nv Pt.pp) rfl (zak (args:=[]) rfl rfl (fun W => zad Tryz.func109 rfl rfl _ W) (fun W hW => pP_is W)) ?_
  refine zam (.int .i64 (cmpN Y Pt.pp)) rfl (zak (args:=[nv Y,nv Pt.pp]) rfl rfl (fun W => zad Tryz.func113 rfl rfl _ W) (fun W hW => cmp_no kY.out W)) ?_;simp only [aP,lA,lZ,lS]
  refine zam (.bool true) rfl (zib rfl rfl (cmp_no_ge k0.out)) ?_
  refine zab (.bool true) rfl (zax rfl rfl rfl) ?_;simp only [aP,lA,lZ,lS]
  exact zaw
 refine zby rfl (by kernel_rfl) ?_
 intro w3 hE
 refine NoPanic.normal ?_
 replace hf:=hf.ext hE
 replace hx:=hx.trans hE
 clear hE
 go_wp2
 go_ret
 exact ⟨rfl,hx⟩
theorem on_near {b : Nat} (x y : Fe) {w : World} (hF : Fp w b) :
  Calls Tryz.prog 78 #[cv b,qv x.val y.val false] w fun e w' => e = .returned (.bool (decide ((y * y).val = (x * x * x - (x + x + x) + Pt.F Pt.bb).val))) ∧ Ext w w':=by
 obtain ⟨sq,hsq⟩ : ∃ t : Fe,t = x * x:=⟨_,rfl⟩
 obtain ⟨cube,hcube⟩ : ∃ t : Fe,t = sq * x:=⟨_,rfl⟩
 obtain ⟨lhs,hlhs⟩ : ∃ t : Fe,t = y * y:=⟨_,rfl⟩
 obtain ⟨tr,htr⟩ : ∃ t : Fe,t = x + x + x:=⟨_,rfl⟩
 obtain ⟨d,hd⟩ : ∃ t : Fe,t = cube - tr:=⟨_,rfl⟩
 obtain ⟨r,hr⟩ : ∃ t : Fe,t = d + Pt.F Pt.bb:=⟨_,rfl⟩
 have hfin : x * x * x - (x + x + x) + Pt.F Pt.bb = r:=by
  subst hr hd htr hlhs hcube hsq
  rfl
 rw [hfin,← hlhs]
 clear hfin
 have ksq:=veil hsq
 have kcube:=veil hcube
 have klhs:=veil hlhs
 have ktr:=veil htr
 have kd:=veil hd
 have kr:=veil hr
 clear hr hd htr hlhs hcube hsq
 have kx:=veil x.isLt
 have ky:=veil y.isLt
 unfold cv qv cc fv qc
 go_enter Tryz.func78,Tryz.ntmps78
 go_upto_region 1 with (fail)
 refine zgd fun w1 hx b0 b1 => ?_
 have b0 : w1.heap[w.heap.size]? = some (.cells (cc b) 126 (0,0)):=b0
 have b1 : w1.heap[w.heap.size + 1]? = some (.cells (qc x.val y.val false) 29 (0,0)):=b1
 have hf:=hF.ext hx
 clear hF
 refine' zbc (m:=2) (A:=_) (by kernel_rfl) ?h1 ?h2
 case h1 =>
  refine zab (.pointer (some ⟨w.heap.size + 1,8,none⟩)) rfl (zan rfl rfl (fldT2 _ ·)) ?_
  refine zab (.bool false) rfl (zbe rfl rfl b1 rfl (zce ·)) ?_;simp only [aP,lA,lZ,lS]
  exact zaw
 refine zbi rfl ?_
 intro w2 hE
 replace b0:=hE.block b0
 replace b1:=hE.block b1
 replace hf:=hf.ext hE
 replace hx:=hx.trans hE
 clear hE
 go_upto_region 3 with (fail)
 refine' zch (m:=12) (A:=_) 12 (by kernel_rfl) (by kernel_rfl) ?h2a ?h2b
 case h2a =>
  refine zab (ptrTo (w.heap.size + 1)) rfl (zan rfl rfl (fldT0 _ ·)) ?_
  refine zab (nv x.val) rfl (zag rfl rfl b1 rfl uN rfl (iN _)) ?_;simp only [aP,lA,lZ,lS]
  refine zab (nv Pt.pp) rfl (zak (args:=[]) rfl rfl (fun W => zad Tryz.func109 rfl rfl _ W) (fun W hW => pP_is W)) ?_
  refine zab (.int .i64 (-1)) rfl (zak (args:=[nv x.val,nv Pt.pp]) rfl rfl (fun W => zad Tryz.func113 rfl rfl _ W) (fun W hW => cmp_in kx.out W)) ?_;simp only [aP,lA,lZ,lS]
  refine zab (.bool false) rfl (zib rfl rfl (by decide)) ?_
  refine zab (.bool false) rfl (zaj (.inl rfl) rfl) ?_;simp only [aP,lA,lZ,lS]
  refine zam (.pointer (some ⟨w.heap.size + 1,4,none⟩)) rfl (zan rfl rfl (fldT1 _ ·)) ?_
  refine zam (nv y.val) rfl (zag rfl rfl b1 rfl uN rfl (iN _)) ?_;simp only [aP,lA,lZ,lS]
  refine zam (nv Pt.pp) rfl (zak (args:=[]) rfl rfl (fun W => zad Tryz.func109 rfl rfl _ W) (fun W hW => pP_is W)) ?_
  refine zam (.int .i64 (-1)) rfl (zak (args:=[nv y.val,nv Pt.pp]) rfl rfl (fun W => zad Tryz.func113 rfl rfl _ W) (fun W hW => cmp_in ky.out W)) ?_;simp only [aP,lA,lZ,lS]
  refine zam (.bool false) rfl (zib rfl rfl (by decide)) ?_
  refine zab (.bool false) rfl (zax rfl rfl rfl) ?_;simp only [aP,lA,lZ,lS]
  exact zaw
 refine zby rfl (by kernel_rfl) ?_
 intro w3 hE
 refine NoPanic.normal ?_
 replace b0:=hE.block b0
 replace b1:=hE.block b1
 replace hf:=hf.ext hE
 replace hx:=hx.trans hE
 clear hE
 go_upto_region 5 with (fail)
 refine' zet (m:=12) (A:=_) 13 (by kernel_rfl) (by kernel_rfl) (by kernel_rfl) ?h3a ?h3b
 case h3a =>
  refine zab (.pointer (some ⟨w.heap.size,2,none⟩)) rfl (zan rfl rfl (fldK2 _ ·)) ?_
  refine zab (fv 89 b) rfl (zbe rfl rfl b0 rfl (zie ·)) ?_;simp only [aP,lA,lZ,lS]
  refine zab (.pointer (some ⟨w.heap.size,2,none⟩)) rfl (zan rfl rfl (fldK2 _ ·)) ?_
  refine zab (fv 89 b) rfl (zbe rfl rfl b0 rfl (zie ·)) ?_;simp only [aP,lA,lZ,lS]
  refine zab (ptrTo (w.heap.size + 1)) rfl (zan rfl rfl (fldT0 _ ·)) ?_
  refine zab (nv x.val) rfl (zag rfl rfl b1 rfl uN rfl (iN _)) ?_;simp only [aP,lA,lZ,lS]
  refine zab (ptrTo (w.heap.size + 1)) rfl (zan rfl rfl (fldT0 _ ·)) ?_
  refine zab (nv x.val) rfl (zag rfl rfl b1 rfl uN rfl (iN _)) ?_;simp only [aP,lA,lZ,lS]
  refine zab (nv sq.val) rfl (zkt (args:=[nv x.val,nv x.val]) rfl rfl rfl (he_kMul _ ·) (fun W hW => zbn ksq.out (hf.ext hW))) ?_
  refine zab (ptrTo (w.heap.size + 1)) rfl (zan rfl rfl (fldT0 _ ·)) ?_;simp only [aP,lA,lZ,lS]
  refine zab (nv x.val) rfl (zag rfl rfl b1 rfl uN rfl (iN _)) ?_
  refine zab (nv cube.val) rfl (zkt (args:=[nv sq.val,nv x.val]) rfl rfl rfl (he_kMul _ ·) (fun W hW => zbn kcube.out (hf.ext hW))) ?_;simp only [aP,lA,lZ,lS]
  exact zaw
 refine zhu _ _ rfl rfl rfl rfl rfl rfl rfl rfl rfl (by kernel_rfl) (by kernel_rfl) (by kernel_rfl) rfl rfl (hzN ·) (fun _ => rfl) (fun _ => rfl) (iN _) rfl (zek _) ?_
 intro gcube w4 hgcube bcube hE
 refine NoPanic.normal ?_
 replace b0:=hE.block b0
 replace b1:=hE.block b1
 replace hf:=hf.ext hE
 replace hx:=hx.trans hE
 clear hE
 simp only [aP,lA,lZ,lS]
 clear hgcube
 go_upto_region 6 with (fail)
 refine' zet (m:=21) (A:=_) 21 (by kernel_rfl) (by kernel_rfl) (by kernel_rfl) ?h4a ?h4b
 case h4a =>
  refine zab (.pointer (some ⟨w.heap.size,2,none⟩)) rfl (zan rfl rfl (fldK2 _ ·)) ?_
  refine zab (fv 89 b) rfl (zbe rfl rfl b0 rfl (zie ·)) ?_;simp only [aP,lA,lZ,lS]
  refine zab (.pointer (some ⟨w.heap.size + 1,4,none⟩)) rfl (zan rfl rfl (fldT1 _ ·)) ?_
  refine zab (nv y.val) rfl (zag rfl rfl b1 rfl uN rfl (iN _)) ?_;simp only [aP,lA,lZ,lS]
  refine zab (.pointer (some ⟨w.heap.size + 1,4,none⟩)) rfl (zan rfl rfl (fldT1 _ ·)) ?_
  refine zab (nv y.val) rfl (zag rfl rfl b1 rfl uN rfl (iN _)) ?_;simp only [aP,lA,lZ,lS]
  refine zab (nv lhs.val) rfl (zkt (args:=[nv y.val,nv y.val]) rfl rfl rfl (he_kMul _ ·) (fun W hW => zbn klhs.out (hf.ext hW))) ?_
  refine zab (ptrTo w.heap.size) rfl (zan rfl rfl (fldK0 _ ·)) ?_;simp only [aP,lA,lZ,lS]
  refine zab (fv 110 b) rfl (zbe rfl rfl b0 rfl (zie ·)) ?_
  refine zab (.pointer (some ⟨w.heap.size,1,none⟩)) rfl (zan rfl rfl (fldK1 _ ·)) ?_;simp only [aP,lA,lZ,lS]
  refine zab (fv 111 b) rfl (zbe rfl rfl b0 rfl (zie ·)) ?_
  refine zab (nv cube.val) rfl (zag rfl rfl bcube rfl uN rfl (iN _)) ?_;simp only [aP,lA,lZ,lS]
  refine zab (cv b) rfl (zag rfl rfl b0 rfl Tryz.underlying126 rfl (iK _)) ?_
  refine zab (ptrTo (w.heap.size + 1)) rfl (zan rfl rfl (fldT0 _ ·)) ?_;simp only [aP,lA,lZ,lS]
  refine zab (nv x.val) rfl (zag rfl rfl b1 rfl uN rfl (iN _)) ?_
  refine zab (nv tr.val) rfl (zak (args:=[cv b,nv x.val]) rfl rfl (fun W => zad Tryz.func114 rfl rfl _ W) (fun W hW => trp_calls ktr.out (hf.ext hW))) ?_;simp only [aP,lA,lZ,lS]
  refine zab (nv d.val) rfl (zkt (args:=[nv cube.val,nv tr.val]) rfl rfl rfl (he_kSub _ ·) (fun W hW => zdv kd.out (hf.ext hW))) ?_
  refine zab (nv ((Pt.F Pt.bb : Fe).val)) rfl (zak (args:=[]) rfl rfl (fun W => zad Tryz.func115 rfl rfl _ W) (fun W hW => bb_is W)) ?_;simp only [aP,lA,lZ,lS]
  refine zab (nv r.val) rfl (zkt (args:=[nv d.val,nv ((Pt.F Pt.bb : Fe).val)]) rfl rfl rfl (he_kAdd _ ·) (fun W hW => kadd_p kr.out (hf.ext hW))) ?_
  refine zab (.bool (decide (lhs.val = r.val))) rfl (made_eqn rfl rfl rfl (zef _) (zef _)) ?_;simp only [aP,lA,lZ,lS]
  refine zab (.bool (decide (lhs.val = r.val))) rfl (zaj (.inr rfl) rfl) ?_;simp only [aP,lA,lZ,lS]
  exact zaw
 refine zby rfl (by kernel_rfl) ?_
 intro w5 hE
 refine NoPanic.normal ?_
 replace hf:=hf.ext hE
 replace hx:=hx.trans hE
 clear hE
 go_wp2
 go_ret
 exact ⟨rfl,hx⟩
def Rep (x y z : Fe) : Pt.P Pt.pp → Prop
 | none => z = 0
 | some (X,Y) => z ≠ 0 ∧ x = X * (z * z) ∧ y = Y * (z * z * z)
section
variable {n : Nat} [NeZero n]
theorem rt_m {X Y z l x Z s u : Fin n} (hl : l * (Y + Y) = 3 * (X * X - 1)) (hx : x = X * (z * z)) (hZ : Z = Y * (z * z * z) * z + Y * (z * z * z) * z) (hs : s = x - z * z) (hu : u = x + z * z) : s * u + s * u + s * u = l * Z:=by
 subst hs hu hx hZ
 have h : l * (Y * (z * z * z) * z + Y * (z * z * z) * z) = l * (Y + Y) * (z * z * z * z):=by grobner
 rw [h,hl]
 grobner
theorem rt_c {X Y z x y Z : Fin n} (hx : x = X * (z * z)) (hy : y = Y * (z * z * z)) (hZ : Z = y * z + y * z) : (x * (y * y) + x * (y * y)) + (x * (y * y) + x * (y * y)) = X * (Z * Z):=by
 subst hZ hy hx
 grobner
theorem rt_x {m l Z c X : Fin n} (hm : m = l * Z) (hc : c = X * (Z * Z)) : m * m - (c + c) = (l * l - X - X) * (Z * Z):=by
 subst hm hc
 grobner
theorem rt_t {Y z y Z : Fin n} (hy : y = Y * (z * z * z)) (hZ : Z = y * z + y * z) : ((y * y * (y * y) + y * y * (y * y)) + (y * y * (y * y) + y * y * (y * y))) + ((y * y * (y * y) + y * y * (y * y)) + (y * y * (y * y) + y * y * (y * y))) = Y * (Z * Z * Z):=by
 subst hZ hy
 grobner
theorem rt_y {m l Z c X x3 X3 t Y : Fin n} (hm : m = l * Z) (hc : c = X * (Z * Z)) (hx : x3 = X3 * (Z * Z)) (ht : t = Y * (Z * Z * Z)) : m * (c - x3) - t = (l * (X - X3) - Y) * (Z * Z * Z):=by
 subst hm hc hx ht
 grobner
theorem rp_run {X1 X2 z x : Fin n} (hx : x = X1 * (z * z)) : X2 * (z * z) - x = (X2 - X1) * (z * z):=by subst hx; grobner
theorem rp_rise {Y1 Y2 z y : Fin n} (hy : y = Y1 * (z * z * z)) : Y2 * (z * z * z) - y = (Y2 - Y1) * (z * z * z):=by subst hy; grobner
theorem rp_l {X1 X2 Y1 Y2 z l run Z : Fin n} (hl : l * (X2 - X1) = Y2 - Y1) (hr : run = (X2 - X1) * (z * z)) (hZ : Z = z * run) : (Y2 - Y1) * (z * z * z) = l * Z:=by
 subst hZ hr
 rw [← hl]
 grobner
theorem rp_x {X1 X2 z l run Z rise x : Fin n} (hx : x = X1 * (z * z)) (hr : run = (X2 - X1) * (z * z)) (hZ : Z = z * run) (hs : rise = l * Z) :
  rise * rise - run * run * run - (x * (run * run) + x * (run * run)) = (l * l - X1 - X2) * (Z * Z):=by
 subst hs hZ hr hx
 grobner
theorem rp_y {X1 Y1 X2 z l run Z rise x y x3 X3 : Fin n} (hx : x = X1 * (z * z)) (hy : y = Y1 * (z * z * z)) (hr : run = (X2 - X1) * (z * z)) (hZ : Z = z * run) (hs : rise = l * Z) (h3 : x3 = X3 * (Z * Z)) :
  rise * (x * (run * run) - x3) - y * (run * run * run) = (l * (X1 - X3) - Y1) * (Z * Z * Z):=by
 subst h3 hs hZ hr hx hy
 grobner
theorem rf_x {X x z t : Fin n} (hx : x = X * (z * z)) (ht : z * t = 1) : x * (t * t) = X:=by
 subst hx
 have h : X * (z * z) * (t * t) = X * (z * t) * (z * t):=by grobner
 rw [h,ht]
 grobner
theorem rf_y {Y y z t : Fin n} (hy : y = Y * (z * z * z)) (ht : z * t = 1) : y * (t * t * t) = Y:=by
 subst hy
 have h : Y * (z * z * z) * (t * t * t) = Y * (z * t) * (z * t) * (z * t):=by grobner
 rw [h,ht]
 grobner
theorem three_x (x : Fin n) : x + x + x = 3 * x:=by grobner
theorem opp_of {y1 y2 : Fin n} (h : (y1 - y2) * (y1 - (0 - y2)) = 0) (hz : ∀ x y : Fin n,x * y = 0 → x = 0 ∨ y = 0) (hn : y1 ≠ y2) : y1 = 0 - y2:=by
 rcases hz _ _ h with h | h
 ·
  exact absurd (Pt.eq_of_sub h) hn
 ·
  exact Pt.eq_of_sub h
theorem opp_sq {y1 y2 : Fin n} (h : y1 * y1 = y2 * y2) : (y1 - y2) * (y1 - (0 - y2)) = 0:=by grobner
end
theorem fe_ne {x : Fe} (h : x ≠ 0) : x.val ≠ 0:=fun e => h (Fin.ext (by rw [e,zfu]))
theorem fe_z {x : Fe} (h : x = 0) : x.val = 0:=by rw [h,zfu]
theorem noz {x y : Fe} (hx : x ≠ 0) (hy : y ≠ 0) : x * y ≠ 0:=fun e => by
 rcases Pt.good.hz _ _ e with h | h
 ·
  exact hx h
 ·
  exact hy h
section
variable {n : Nat} [NeZero n]
theorem r0 (y : Fin n) : y * 0 + y * 0 = 0:=by grobner
theorem r1 (Y z : Fin n) : Y * (z * z * z) * z + Y * (z * z * z) * z = (Y + Y) * (z * z * (z * z)):=by grobner
theorem r2 (u i d : Fin n) (h : d * i = 1) : u * i * d = u:=by
 have e : u * i * d = u * (d * i):=by grobner
 rw [e,h]
 grobner
theorem r3 (X : Fin n) : X = X * (1 * 1):=by grobner
theorem r4 (X : Fin n) : X = X * (1 * 1 * 1):=by grobner
theorem r5 (X z : Fin n) : (X - X) * z = 0:=by grobner
end
theorem rep_twice {x y z : Fe} {p : Pt.P Pt.pp} (hp : Pt.E256.on p) (h : Rep x y z p) : Rep (twice3 x y z).1 (twice3 x y z).2.1 (twice3 x y z).2.2 (Pt.E256.add p p):=by
 rcases p with _ | ⟨X,Y⟩
 ·
  have hz : z = 0:=h
  subst hz
  exact r0 y
 ·
  obtain ⟨hz,hx,hy⟩:=h
  have hd:=Pt.down_same hp
  have hn : ¬ (X = X ∧ Y = 0 - Y):=fun e => hd ((Pt.ring_neg _ _).1 e.2)
  rw [Pt.add_near hn,Pt.lam_same]
  have hl:=r2 (3 * (X * X - 1)) _ _ (Pt.good.hinv (Y + Y) hd)
  generalize 3 * (X * X - 1) * Pt.E256.inv (Y + Y) = l at hl ⊢
  have hZ : y * z + y * z = Y * (z * z * z) * z + Y * (z * z * z) * z:=by rw [hy]
  have hm:=rt_m hl hx hZ rfl rfl
  have hc:=rt_c hx hy rfl
  have h3:=rt_x hm hc
  refine ⟨?_,h3,rt_y hm hc h3 (rt_t hy rfl)⟩
  show y * z + y * z ≠ 0
  rw [hZ,r1]
  exact noz hd (noz (noz hz hz) (noz hz hz))
def qvP (p : Pt.P Pt.pp) : Value:=qv (Pt.pX p) (Pt.pY p) (Pt.pFar p)
theorem twice_rep {x y z : Fe} {p : Pt.P Pt.pp} (hp : Pt.E256.on p) (h : Rep x y z p) : ∃ x' y' z' : Fe,Rep x' y' z' (Pt.E256.add p p) ∧
  ∀ (b : Nat) (w : World),Fp w b → Calls Tryz.prog 146 #[cv b,sv x.val y.val z.val] w fun e w' => e = .returned (sv x'.val y'.val z'.val) ∧ Ext w w' :=
 ⟨_,_,_,rep_twice hp h,fun _ _ hF => twice_calls x y z hF⟩
theorem plus_rep {x y z : Fe} {p q : Pt.P Pt.pp} (hp : Pt.E256.on p) (hq : Pt.E256.on q) (h : Rep x y z p) : ∃ x' y' z' : Fe,Rep x' y' z' (Pt.E256.add p q) ∧
  ∀ (b : Nat) (w : World),Fp w b → Calls Tryz.prog 147 #[cv b,sv x.val y.val z.val,qvP q] w fun e w' => e = .returned (sv x'.val y'.val z'.val) ∧ Ext w w':=by
 rcases q with _ | ⟨X2,Y2⟩
 ·
  rw [Pt.add_none]
  exact ⟨_,_,_,h,fun _ _ hF => plus_far x.val y.val z.val 0 0 hF⟩
 rcases p with _ | ⟨X1,Y1⟩
 ·
  have hz : z = 0:=h
  subst hz
  rw [Pt.none_add,zfu]
  refine ⟨X2,Y2,1,⟨?_,r3 X2,r4 Y2⟩,fun b w hF => ?_⟩
  ·
   intro e
   have:=congrArg Fin.val e
   rw [v_one,zfu] at this
   exact absurd this (by decide)
  ·
   rw [v_one]
   exact plus_lift x.val y.val X2.val Y2.val hF
 ·
  obtain ⟨hz,hx,hy⟩:=h
  have hz3 : z * z * z ≠ 0:=noz (noz hz hz) hz
  have hrun : runOf x z X2 = (X2 - X1) * (z * z):=rp_run hx
  have hrise : riseOf y z Y2 = (Y2 - Y1) * (z * z * z):=rp_rise hy
  by_cases hX : X1 = X2
  ·
   subst hX
   have h0 : (runOf x z X1).val = 0:=fe_z (by rw [hrun]; exact r5 _ _)
   by_cases hY : Y1 = Y2
   ·
    subst hY
    have h1 : (riseOf y z Y1).val = 0:=fe_z (by rw [hrise]; exact r5 _ _)
    exact ⟨_,_,_,rep_twice hp ⟨hz,hx,hy⟩,fun _ _ hF => plus_same x y z X1 Y1 (fe_ne hz) h0 h1 hF⟩
   ·
    have h1 : (riseOf y z Y2).val ≠ 0:=fe_ne (by rw [hrise]; exact noz (fun e => hY (Pt.eq_of_sub e).symm) hz3)
    have he : Y1 * Y1 = Y2 * Y2:=by
     have e1 : Y1 * Y1 = _:=(Pt.on_iff X1 Y1).1 hp
     have e2 : Y2 * Y2 = _:=(Pt.on_iff X1 Y2).1 hq
     rw [e1,e2]
    have ho:=opp_of (opp_sq he) Pt.good.hz hY
    rw [Pt.add_far ⟨rfl,ho⟩]
    refine ⟨0,0,0,rfl,fun b w hF => ?_⟩
    rw [zfu]
    exact plus_opp x y z X1 Y2 (fe_ne hz) h0 h1 hF
  ·
   have hd : X2 - X1 ≠ 0:=fun e => hX (Pt.eq_of_sub e).symm
   have h0 : runOf x z X2 ≠ 0:=by rw [hrun]; exact noz hd (noz hz hz)
   rw [Pt.add_near (fun e => hX e.1),Pt.lam_else (fun e => hX e.1)]
   have hl:=r2 (Y2 - Y1) _ _ (Pt.good.hinv (X2 - X1) hd)
   generalize (Y2 - Y1) * Pt.E256.inv (X2 - X1) = l at hl ⊢
   have hs : riseOf y z Y2 = l * (z * runOf x z X2):=by rw [hrise]; exact rp_l hl hrun rfl
   have h3:=rp_x (X2:=X2) hx hrun rfl hs
   exact ⟨_,_,_,⟨noz hz h0,h3,rp_y (X2:=X2) hx hy hrun rfl hs h3⟩,fun _ _ hF => plus_else x y z X2 Y2 (fe_ne hz) (fe_ne h0) hF⟩
theorem lift_rep (p : Pt.P Pt.pp) : ∃ x y z : Fe,Rep x y z p ∧ ∀ w,Calls Tryz.prog 144 #[qvP p] w fun e w' => e = .returned (sv x.val y.val z.val) ∧ Ext w w':=by
 rcases p with _ | ⟨X,Y⟩
 ·
  refine ⟨0,0,0,rfl,fun w => ?_⟩
  rw [zfu]
  exact lift_far 0 0 w
 ·
  refine ⟨X,Y,1,⟨?_,r3 X,r4 Y⟩,fun w => ?_⟩
  ·
   intro e
   have:=congrArg Fin.val e
   rw [v_one,zfu] at this
   exact absurd this (by decide)
  ·
   rw [v_one]
   exact lift_near X.val Y.val w
theorem flat_rep {b : Nat} {x y z : Fe} {p : Pt.P Pt.pp} (h : Rep x y z p) {w : World} (hF : Fp w b) :
  Calls Tryz.prog 148 #[cv b,sv x.val y.val z.val] w fun e w' => e = .returned (qvP p) ∧ Ext w w':=by
 rcases p with _ | ⟨X,Y⟩
 ·
  have hz : z = 0:=h
  subst hz
  rw [zfu]
  exact flat_far x.val y.val hF
 ·
  obtain ⟨hz,hx,hy⟩:=h
  have ht:=Pt.good.hinv z hz
  refine (flat_near x y z hz hF).mono fun _ _ ⟨he,hw⟩ => ⟨?_,hw⟩
  rw [he]
  have e1 : (flat2 x y z).1 = X:=rf_x hx ht
  have e2 : (flat2 x y z).2 = Y:=rf_y hy ht
  rw [e1,e2]
  rfl
theorem on_calls {b : Nat} (X Y : Nat) (f : Bool) (hX : X < top) (hY : Y < top) {w : World} (hF : Fp w b) :
  Calls Tryz.prog 78 #[cv b,qv X Y f] w fun e w' => e = .returned (.bool (onB X Y f)) ∧ Ext w w':=by
 unfold onB
 cases f with
 | true =>
  by_cases h0 : X = 0
  ·
   subst h0
   simp only [if_true,decide_true,Bool.true_and]
   exact on_far0 Y hY hF
  ·
   simp only [if_true,h0,decide_false,Bool.false_and]
   exact on_far1 X Y hX h0 hF
 | false =>
  by_cases hx : X < Pt.pp
  ·
   by_cases hy : Y < Pt.pp
   ·
    simp only [Bool.false_eq_true,if_false,hx,hy,decide_true,Bool.true_and]
    have k:=on_near (b:=b) ⟨X,hx⟩ ⟨Y,hy⟩ hF
    rw [three_x,← right_val,← Pt.v_mul] at k
    exact k
   ·
    simp only [Bool.false_eq_true,if_false,hx,hy,decide_true,decide_false,Bool.true_and,Bool.false_and]
    exact on_high X Y hx hY hy hF
  ·
   simp only [Bool.false_eq_true,if_false,hx,decide_false,Bool.false_and]
   exact on_out X Y hX hx hF
theorem on_yes {b : Nat} (q : Pt.Q) {w : World} (hF : Fp w b) : Calls Tryz.prog 78 #[cv b,qvP q.1] w fun e w' => e = .returned (.bool true) ∧ Ext w w':=by
 have k:=on_calls (Pt.pX q.1) (Pt.pY q.1) (Pt.pFar q.1) (p_top q.1).1 (p_top q.1).2 hF
 rw [onB_of] at k
 exact k
theorem Fp.but {w W : World} {b r : Nat} (h : Fp w b) (hB : But r w W) (hne : b ≠ r) : Fp W b:=by
 obtain ⟨N,Q,h1,h2⟩:=h
 exact ⟨N,Q,h1,h2.of_block (hB.block b h2.lt (by intro e; simp at e; exact hne e))⟩
end Go.Proofs.YthlbemnbmbmjhaaGreatDoor
