/-
  Of FCut FCutn FAdd2 NS4 KH LMo FSub2 FMul2 C1 C2 C4 C3 C5 C6 C7.
-/
import Derived.Deep.CutRange
import Derived.Deep.QuietTactic
import Derived.BigQuiet
import Derived.Deep.RegionWith
import Derived.Test.YthlbemnbmbmjhaaGreatDoorRows
import Derived.WalkKit
import Derived.WalkSpells
import Derived.WalkLawsBesides
import Derived.Test.YthlbemnbmbmjhaaGreatDoorCards
import Derived.Test.YthlbemnbmbmjhaaGreatDoorTie
import Derived.Carry
import Derived.Deep.RegionHeld3
import Derived.Test.YthlbemnbmbmjhaaGreatDoorZM13
import Derived.Test.YthlbemnbmbmjhaaGreatDoorZM12
import Derived.Test.YthlbemnbmbmjhaaGreatDoorZM4
import Derived.Test.YthlbemnbmbmjhaaGreatDoorZM3
import Derived.Test.YthlbemnbmbmjhaaGreatDoorZM8
import Derived.Test.YthlbemnbmbmjhaaGreatDoorZM1
import Derived.Test.YthlbemnbmbmjhaaGreatDoorZM9
import Derived.Test.YthlbemnbmbmjhaaGreatDoorZM5
import Derived.Test.YthlbemnbmbmjhaaGreatDoorZM7
import Derived.Test.YthlbemnbmbmjhaaGreatDoorZM14
import Derived.Test.YthlbemnbmbmjhaaGreatDoorZM11
set_option maxRecDepth 1000000
set_option maxHeartbeats 20000000
namespace Go.Proofs.YthlbemnbmbmjhaaGreatDoor
open Go.RowKit
open Go.Value renaming int → vI
open Go.IntKind renaming u64 → vU
open Go.Act renaming put → aP
open List renaming setIfInBounds_toArray → lA, set_cons_zero → lZ, set_cons_succ → lS
theorem kshr (b X M : Nat) (N : Int) (Q V Z : Nat) (hV : V * top % M = X % M) (hlt : X < M * top) (hX : X < top8) (hZ : V % M = Z) (hK : Fok M N Q) (w : World) (hF : Fb w b M N Q) :
  Calls Tryz.prog 149 #[.pointer (some ⟨b,0,none⟩),.agg #[vI vU (wd X 0),vI vU (wd X 1),vI vU (wd X 2),vI vU (wd X 3),vI vU (wd X 4),vI vU (wd X 5),vI vU (wd X 6),vI vU (wd X 7)]] w fun e w' => e = .returned (.agg #[vI vU (wd Z 0),vI vU (wd Z 1),vI vU (wd Z 2),vI vU (wd Z 3)]) ∧ Below w.heap.size w w':=by
 refine (shrunk_any b X M N Q hX hK w hF).mono ?_
 rintro e w' ⟨⟨Z',h1,h2,h3,rfl⟩,hb⟩
 have e1:=cut_top hK.odd (h2.trans hV.symm)
 rw [Nat.mod_eq_of_lt (h3 hlt),hZ] at e1
 subst e1
 exact ⟨rfl,hb⟩
theorem sq_num {Z X M : Nat} {N : Int} {Q : Nat} (hK : Fok M N Q) (h : Z * top % M = X % M) : X * top % M = Z * Q % M:=by
 rw [hK.q,Nat.mul_mod_mod,zin,← Nat.mul_assoc,← Nat.mod_mul_mod (Z * top),h,Nat.mod_mul_mod]
theorem mul_lt8 {X Y : Nat} (hX : X < top) (hY : Y < top) : X * Y < top8:=by
 rw [zin]; exact Nat.mul_lt_mul'' hX hY
theorem mul_ltm {X Q M : Nat} (hX : X < top) (hQ : Q < M) : X * Q < M * top:=by
 rw [Nat.mul_comm M]; exact Nat.mul_lt_mul'' hX hQ
theorem cutw_calls (b X M : Nat) (N : Int) (Q P : Nat) (hX : X < top8) (hK : Fok M N Q) (hP : X % M = P) (w : World) (hF : Fb w b M N Q) :
  Calls Tryz.prog 127 #[.pointer (some ⟨b,0,none⟩),.agg #[vI vU (wd X 0),vI vU (wd X 1),vI vU (wd X 2),vI vU (wd X 3),vI vU (wd X 4),vI vU (wd X 5),vI vU (wd X 6),vI vU (wd X 7)]] w fun e w' => e = .returned (.agg #[vI vU (wd P 0),vI vU (wd P 1),vI vU (wd P 2),vI vU (wd P 3)]) ∧ Below w.heap.size w w':=by
 have hQ:=hK.qm
 have hQt : Q < top:=by have:=hK.mt; omega
 have HX:=veil hX
 have HQ:=veil hQ
 have HP:=veil hP
 clear hX hQ hP
 have hA : ((w.alloc (.cells #[vI vU (wd X 0),vI vU (wd X 1),vI vU (wd X 2),vI vU (wd X 3),vI vU (wd X 4),vI vU (wd X 5),vI vU (wd X 6),vI vU (wd X 7)] 165)).alloc (.cells #[vI vU 0,vI vU 0,vI vU 0,vI vU 0] 27)).rowIs w.heap.size 165 8 (fun j => .int .u64 (wd X j)):=(zai (n:=8) (by simp) rfl (arr8 fun j => .int .u64 (wd X j))).alloc _
 have hR : ((w.alloc (.cells #[vI vU (wd X 0),vI vU (wd X 1),vI vU (wd X 2),vI vU (wd X 3),vI vU (wd X 4),vI vU (wd X 5),vI vU (wd X 6),vI vU (wd X 7)] 165)).alloc (.cells #[vI vU 0,vI vU 0,vI vU 0,vI vU 0] 27)).rowIs (w.heap.size + 1) 27 4 (fun _ => .int .u64 0):=zai (n:=4) (by simp) rfl (arr4 fun _ => .int .u64 0)
 have hbel : Below w.heap.size w ((w.alloc (.cells #[vI vU (wd X 0),vI vU (wd X 1),vI vU (wd X 2),vI vU (wd X 3),vI vU (wd X 4),vI vU (wd X 5),vI vU (wd X 6),vI vU (wd X 7)] 165)).alloc (.cells #[vI vU 0,vI vU 0,vI vU 0,vI vU 0] 27)):=((Below.refl _ _).alloc (by simp) _).alloc (by simp) _
 have hFr : Fb ((w.alloc (.cells #[vI vU (wd X 0),vI vU (wd X 1),vI vU (wd X 2),vI vU (wd X 3),vI vU (wd X 4),vI vU (wd X 5),vI vU (wd X 6),vI vU (wd X 7)] 165)).alloc (.cells #[vI vU 0,vI vU 0,vI vU 0,vI vU 0] 27)) b M N Q:=((hF).alloc _).alloc _
 have hbs:=hF.lt
 clear hF
 go_enter Tryz.func127,Tryz.ntmps127
 go_wp2_with fail
 generalize ((w.alloc (.cells #[vI vU (wd X 0),vI vU (wd X 1),vI vU (wd X 2),vI vU (wd X 3),vI vU (wd X 4),vI vU (wd X 5),vI vU (wd X 6),vI vU (wd X 7)] 165)).alloc (.cells #[vI vU 0,vI vU 0,vI vU 0,vI vU 0] 27)) = w0 at *
 obtain ⟨a0,a1,a2,a3,a4,a5,a6,a7⟩:=row_c8 hA
 obtain ⟨s0,s1,s2,s3⟩:=hFr.sq
 obtain ⟨f0,f1,f2,f3⟩:=zat hR
 obtain ⟨d0,d1,d2,d3⟩:=zaf hR
 go_region_with (first
  | (go_at_call 149; refine (kshr b (Z * Q) M N Q X P (sq_num hK HZ.out) (mul_ltm hZt HQ.out) (mul_lt8 hZt hQt) HP.out hK _ (by exact hFr)).mono ?_; rintro e w3 ⟨rfl,hb3⟩; replace hR:=zad (by exact hR) hb3 (by exact hR.lt); replace hFr:=Fb.below (by exact hFr) hb3 (by exact hFr.lt); replace hbel:=Below.trans (by first | exact hbel | exact hbel.drew) (hb3.mono (by exact hbel.size)); obtain ⟨f0,f1,f2,f3⟩:=zat hR; obtain ⟨d0,d1,d2,d3⟩:=zaf hR)
  | (go_at_call 149; refine (shrunk_any b X M N Q HX.out hK _ (by exact hFr)).mono ?_; rintro e w1 ⟨⟨Z,hZt,hZ1,_,rfl⟩,hb1⟩; replace hR:=zad (by exact hR) hb1 (by exact hR.lt); replace hFr:=Fb.below (by exact hFr) hb1 (by exact hFr.lt); replace hbel:=Below.trans (by first | exact hbel | exact hbel.drew) (hb1.mono (by exact hbel.size)); have HZ:=veil hZ1; clear hZ1; obtain ⟨s0,s1,s2,s3⟩:=hFr.sq)
  | (go_at_call 128; refine (kmul Z Q _ rfl hZt hQt _).mono ?_; rintro e w2 ⟨rfl,hb2⟩; replace hR:=zad (by exact hR) hb2 (by exact hR.lt); replace hFr:=Fb.below (by exact hFr) hb2 (by exact hFr.lt); replace hbel:=Below.trans (by first | exact hbel | exact hbel.drew) (hb2.mono (by exact hbel.size))))
 all_goals
  clear a0 a1 a2 a3 a4 a5 a6 a7 s0 s1 s2 s3 f0 f1 f2 f3 d0 d1 d2 d3
  go_wp2
  refine bodyPost_ret (results_cell_row rfl _ _ (w.heap.size + 1) 27 #[vI vU (wd P 0),vI vU (wd P 1),vI vU (wd P 2),vI vU (wd P 3)] (0,0) _ rfl (blk4 (put4 hR fun j => .int .u64 (wd (P) j))) Tryz.underlying27 rfl (by kernel_rfl)) rfl ⟨rfl,zaq hbel (by omega) _ _ _ _⟩
theorem top_lt8 {X : Nat} (h : X < top) : X < top8:=by
 rw [zin]; exact Nat.lt_of_lt_of_le h (Nat.le_mul_of_pos_right _ zdt)
theorem fcut_less (b X M : Nat) (N : Int) (Q P : Nat) (hX : X < top) (hK : Fok M N Q) (hP : X % M = P) (hl : X < M) (w : World) (hF : Fb w b M N Q) :
  Calls Tryz.prog 139 #[.pointer (some ⟨b,0,none⟩),.agg #[vI vU (wd X 0),vI vU (wd X 1),vI vU (wd X 2),vI vU (wd X 3)]] w fun e w' => e = .returned (.agg #[vI vU (wd P 0),vI vU (wd P 1),vI vU (wd P 2),vI vU (wd P 3)]) ∧ Below w.heap.size w w':=by
 obtain ⟨c,hc⟩ : ∃ c,c = cmpN X M:=⟨_,rfl⟩
 have hcn : c = -1:=by rw [hc]; unfold cmpN; rw [if_pos hl]
 have KC:=veil (fun W => kcmp X M c hc.symm hX hK.mt W)
 rw [Nat.mod_eq_of_lt hl] at hP
 subst hP
 subst hcn
 clear hc hl hX
 have hA : ((w.alloc (.cells #[vI vU (wd X 0),vI vU (wd X 1),vI vU (wd X 2),vI vU (wd X 3)] 27)).alloc (.cells #[vI vU 0,vI vU 0,vI vU 0,vI vU 0] 27)).rowIs w.heap.size 27 4 (fun j => .int .u64 (wd X j)):=(zai (n:=4) (by simp) rfl (arr4 fun j => .int .u64 (wd X j))).alloc _
 have hR : ((w.alloc (.cells #[vI vU (wd X 0),vI vU (wd X 1),vI vU (wd X 2),vI vU (wd X 3)] 27)).alloc (.cells #[vI vU 0,vI vU 0,vI vU 0,vI vU 0] 27)).rowIs (w.heap.size + 1) 27 4 (fun _ => .int .u64 0):=zai (n:=4) (by simp) rfl (arr4 fun _ => .int .u64 0)
 have hbel : Below w.heap.size w ((w.alloc (.cells #[vI vU (wd X 0),vI vU (wd X 1),vI vU (wd X 2),vI vU (wd X 3)] 27)).alloc (.cells #[vI vU 0,vI vU 0,vI vU 0,vI vU 0] 27)):=((Below.refl _ _).alloc (by simp) _).alloc (by simp) _
 have hFr : Fb ((w.alloc (.cells #[vI vU (wd X 0),vI vU (wd X 1),vI vU (wd X 2),vI vU (wd X 3)] 27)).alloc (.cells #[vI vU 0,vI vU 0,vI vU 0,vI vU 0] 27)) b M N Q:=((hF).alloc _).alloc _
 have hbs:=hF.lt
 clear hF
 go_enter Tryz.func139,Tryz.ntmps139
 go_wp2_with fail
 generalize ((w.alloc (.cells #[vI vU (wd X 0),vI vU (wd X 1),vI vU (wd X 2),vI vU (wd X 3)] 27)).alloc (.cells #[vI vU 0,vI vU 0,vI vU 0,vI vU 0] 27)) = w0 at *
 obtain ⟨a0,a1,a2,a3⟩:=zaf hA
 obtain ⟨m0,m1,m2,m3⟩:=hFr.mod
 go_region_with (go_at_call 113; refine (KC.out _).mono ?_; rintro e w1 ⟨rfl,hb1⟩; replace hA:=zad (by exact hA) hb1 (by exact hA.lt); replace hR:=zad (by exact hR) hb1 (by exact hR.lt); replace hFr:=Fb.below (by exact hFr) hb1 (by exact hFr.lt); replace hbel:=Below.trans (by first | exact hbel | exact hbel.drew) (hb1.mono (by exact hbel.size)))
 all_goals
  clear a0 a1 a2 a3 m0 m1 m2 m3 hb1
  obtain ⟨a0,a1,a2,a3⟩:=zaf hA
  obtain ⟨f0,f1,f2,f3⟩:=zat hR
  obtain ⟨d0,d1,d2,d3⟩:=zaf hR
  go_wp2
  refine bodyPost_ret (results_cell_row rfl _ _ (w.heap.size + 1) 27 #[vI vU (wd X 0),vI vU (wd X 1),vI vU (wd X 2),vI vU (wd X 3)] (0,0) _ rfl (blk4 (put4 hR fun j => .int .u64 (wd (X) j))) Tryz.underlying27 rfl (by kernel_rfl)) rfl ⟨rfl,zaq hbel (by omega) _ _ _ _⟩
theorem fcut_more (b X M : Nat) (N : Int) (Q P : Nat) (hX : X < top) (hK : Fok M N Q) (hP : X % M = P) (hl : ¬ X < M) (w : World) (hF : Fb w b M N Q) :
  Calls Tryz.prog 139 #[.pointer (some ⟨b,0,none⟩),.agg #[vI vU (wd X 0),vI vU (wd X 1),vI vU (wd X 2),vI vU (wd X 3)]] w fun e w' => e = .returned (.agg #[vI vU (wd P 0),vI vU (wd P 1),vI vU (wd P 2),vI vU (wd P 3)]) ∧ Below w.heap.size w w':=by
 obtain ⟨c,hc⟩ : ∃ c,c = cmpN X M:=⟨_,rfl⟩
 have hcn : 0 ≤ c:=by rw [hc,cmp_ge]; exact hl
 have KC:=veil (fun W => kcmp X M c hc.symm hX hK.mt W)
 have K1:=veil (fun W => wide_calls X hX W)
 have K2:=veil (fun W (h : Fb W b M N Q) => cutw_calls b X M N Q P (top_lt8 hX) hK hP W h)
 clear hc hl hX hP
 have hA : ((w.alloc (.cells #[vI vU (wd X 0),vI vU (wd X 1),vI vU (wd X 2),vI vU (wd X 3)] 27)).alloc (.cells #[vI vU 0,vI vU 0,vI vU 0,vI vU 0] 27)).rowIs w.heap.size 27 4 (fun j => .int .u64 (wd X j)):=(zai (n:=4) (by simp) rfl (arr4 fun j => .int .u64 (wd X j))).alloc _
 have hR : ((w.alloc (.cells #[vI vU (wd X 0),vI vU (wd X 1),vI vU (wd X 2),vI vU (wd X 3)] 27)).alloc (.cells #[vI vU 0,vI vU 0,vI vU 0,vI vU 0] 27)).rowIs (w.heap.size + 1) 27 4 (fun _ => .int .u64 0):=zai (n:=4) (by simp) rfl (arr4 fun _ => .int .u64 0)
 have hbel : Below w.heap.size w ((w.alloc (.cells #[vI vU (wd X 0),vI vU (wd X 1),vI vU (wd X 2),vI vU (wd X 3)] 27)).alloc (.cells #[vI vU 0,vI vU 0,vI vU 0,vI vU 0] 27)):=((Below.refl _ _).alloc (by simp) _).alloc (by simp) _
 have hFr : Fb ((w.alloc (.cells #[vI vU (wd X 0),vI vU (wd X 1),vI vU (wd X 2),vI vU (wd X 3)] 27)).alloc (.cells #[vI vU 0,vI vU 0,vI vU 0,vI vU 0] 27)) b M N Q:=((hF).alloc _).alloc _
 have hbs:=hF.lt
 clear hF
 go_enter Tryz.func139,Tryz.ntmps139
 go_wp2_with fail
 generalize ((w.alloc (.cells #[vI vU (wd X 0),vI vU (wd X 1),vI vU (wd X 2),vI vU (wd X 3)] 27)).alloc (.cells #[vI vU 0,vI vU 0,vI vU 0,vI vU 0] 27)) = w0 at *
 obtain ⟨a0,a1,a2,a3⟩:=zaf hA
 obtain ⟨m0,m1,m2,m3⟩:=hFr.mod
 go_region_with (go_at_call 113; refine (KC.out _).mono ?_; rintro e w1 ⟨rfl,hb1⟩; replace hA:=zad (by exact hA) hb1 (by exact hA.lt); replace hR:=zad (by exact hR) hb1 (by exact hR.lt); replace hFr:=Fb.below (by exact hFr) hb1 (by exact hFr.lt); replace hbel:=Below.trans (by first | exact hbel | exact hbel.drew) (hb1.mono (by exact hbel.size)))
 all_goals
  clear a0 a1 a2 a3 m0 m1 m2 m3 hb1
  obtain ⟨a0,a1,a2,a3⟩:=zaf hA
  go_wp2_with fail
  refine (K1.out _).mono ?_
  rintro e w2 ⟨rfl,hb2⟩
  replace hR:=zad (by exact hR) hb2 (by exact hR.lt)
  replace hFr:=Fb.below (by exact hFr) hb2 (by exact hFr.lt)
  replace hbel:=Below.trans (by first | exact hbel | exact hbel.drew) (hb2.mono (by exact hbel.size))
  clear a0 a1 a2 a3 hA hb2
  go_wp2_with fail
  refine (K2.out _ hFr).mono ?_
  rintro e w3 ⟨rfl,hb3⟩
  replace hR:=zad (by exact hR) hb3 (by exact hR.lt)
  replace hFr:=Fb.below (by exact hFr) hb3 (by exact hFr.lt)
  replace hbel:=Below.trans (by first | exact hbel | exact hbel.drew) (hb3.mono (by exact hbel.size))
  clear hb3 hFr
  obtain ⟨f0,f1,f2,f3⟩:=zat hR
  obtain ⟨d0,d1,d2,d3⟩:=zaf hR
  go_wp2
  refine bodyPost_ret (results_cell_row rfl _ _ (w.heap.size + 1) 27 #[vI vU (wd P 0),vI vU (wd P 1),vI vU (wd P 2),vI vU (wd P 3)] (0,0) _ rfl (blk4 (put4 hR fun j => .int .u64 (wd (P) j))) Tryz.underlying27 rfl (by kernel_rfl)) rfl ⟨rfl,zaq hbel (by omega) _ _ _ _⟩
theorem fcut_calls (b X M : Nat) (N : Int) (Q P : Nat) (hX : X < top) (hK : Fok M N Q) (hP : X % M = P) (w : World) (hF : Fb w b M N Q) :
  Calls Tryz.prog 139 #[.pointer (some ⟨b,0,none⟩),.agg #[vI vU (wd X 0),vI vU (wd X 1),vI vU (wd X 2),vI vU (wd X 3)]] w fun e w' => e = .returned (.agg #[vI vU (wd P 0),vI vU (wd P 1),vI vU (wd P 2),vI vU (wd P 3)]) ∧ Below w.heap.size w w':=by
 by_cases h : X < M
 ·
  exact fcut_less b X M N Q P hX hK hP h w hF
 ·
  exact fcut_more b X M N Q P hX hK hP h w hF
theorem fadd2_calls (b X Y M : Nat) (N : Int) (Q Z : Nat) (hX : X < top) (hY : Y < top) (hK : Fok M N Q) (hZ : (X % M + Y % M) % M = Z) (w : World) (hF : Fb w b M N Q) :
  Calls Tryz.prog 110 #[.pointer (some ⟨b,0,none⟩),.agg #[vI vU (wd X 0),vI vU (wd X 1),vI vU (wd X 2),vI vU (wd X 3)],.agg #[vI vU (wd Y 0),vI vU (wd Y 1),vI vU (wd Y 2),vI vU (wd Y 3)]] w fun e w' => e = .returned (.agg #[vI vU (wd Z 0),vI vU (wd Z 1),vI vU (wd Z 2),vI vU (wd Z 3)]) ∧ Below w.heap.size w w':=by
 have hM0 : 0 < M:=by have:=hK.m2; omega
 have hX2:=Nat.mod_lt X hM0
 have hY2:=Nat.mod_lt Y hM0
 have K3:=veil (fun W (h : Fb W b M N Q) => fadd_calls b (X % M) (Y % M) M N Q Z hX2 hY2 hK.mt hZ W h)
 have HK:=veil hK
 clear hK hZ hM0 hX2 hY2
 have hA : (((w.alloc (.cells #[vI vU (wd X 0),vI vU (wd X 1),vI vU (wd X 2),vI vU (wd X 3)] 27)).alloc (.cells #[vI vU (wd Y 0),vI vU (wd Y 1),vI vU (wd Y 2),vI vU (wd Y 3)] 27)).alloc (.cells #[vI vU 0,vI vU 0,vI vU 0,vI vU 0] 27)).rowIs w.heap.size 27 4 (fun j => .int .u64 (wd X j)):=((zai (n:=4) (by simp) rfl (arr4 fun j => .int .u64 (wd X j))).alloc _).alloc _
 have hB : (((w.alloc (.cells #[vI vU (wd X 0),vI vU (wd X 1),vI vU (wd X 2),vI vU (wd X 3)] 27)).alloc (.cells #[vI vU (wd Y 0),vI vU (wd Y 1),vI vU (wd Y 2),vI vU (wd Y 3)] 27)).alloc (.cells #[vI vU 0,vI vU 0,vI vU 0,vI vU 0] 27)).rowIs (w.heap.size + 1) 27 4 (fun j => .int .u64 (wd Y j)):=(zai (n:=4) (by simp) rfl (arr4 fun j => .int .u64 (wd Y j))).alloc _
 have hR : (((w.alloc (.cells #[vI vU (wd X 0),vI vU (wd X 1),vI vU (wd X 2),vI vU (wd X 3)] 27)).alloc (.cells #[vI vU (wd Y 0),vI vU (wd Y 1),vI vU (wd Y 2),vI vU (wd Y 3)] 27)).alloc (.cells #[vI vU 0,vI vU 0,vI vU 0,vI vU 0] 27)).rowIs (w.heap.size + 1 + 1) 27 4 (fun _ => .int .u64 0):=zai (n:=4) (by simp) rfl (arr4 fun _ => .int .u64 0)
 have hbel : Below w.heap.size w (((w.alloc (.cells #[vI vU (wd X 0),vI vU (wd X 1),vI vU (wd X 2),vI vU (wd X 3)] 27)).alloc (.cells #[vI vU (wd Y 0),vI vU (wd Y 1),vI vU (wd Y 2),vI vU (wd Y 3)] 27)).alloc (.cells #[vI vU 0,vI vU 0,vI vU 0,vI vU 0] 27)):=(((Below.refl _ _).alloc (by simp) _).alloc (by simp) _).alloc (by simp; omega) _
 have hFr : Fb (((w.alloc (.cells #[vI vU (wd X 0),vI vU (wd X 1),vI vU (wd X 2),vI vU (wd X 3)] 27)).alloc (.cells #[vI vU (wd Y 0),vI vU (wd Y 1),vI vU (wd Y 2),vI vU (wd Y 3)] 27)).alloc (.cells #[vI vU 0,vI vU 0,vI vU 0,vI vU 0] 27)) b M N Q:=(((hF).alloc _).alloc _).alloc _
 have hbs:=hF.lt
 clear hF
 go_enter Tryz.func110,Tryz.ntmps110
 go_wp2_with fail
 generalize (((w.alloc (.cells #[vI vU (wd X 0),vI vU (wd X 1),vI vU (wd X 2),vI vU (wd X 3)] 27)).alloc (.cells #[vI vU (wd Y 0),vI vU (wd Y 1),vI vU (wd Y 2),vI vU (wd Y 3)] 27)).alloc (.cells #[vI vU 0,vI vU 0,vI vU 0,vI vU 0] 27)) = w0 at *
 obtain ⟨a0,a1,a2,a3⟩:=zaf hA
 obtain ⟨b0,b1,b2,b3⟩:=zaf hB
 obtain ⟨f0,f1,f2,f3⟩:=zat hR
 obtain ⟨d0,d1,d2,d3⟩:=zaf hR
 go_region_with (first
  | (go_at_call 139; refine (fcut_calls b _ M N Q _ (by assumption) HK.out rfl _ (by exact hFr)).mono ?_; rintro e w1 ⟨rfl,hb1⟩; replace hB:=zad (by exact hB) hb1 (by exact hB.lt); replace hA:=zad (by exact hA) hb1 (by exact hA.lt); replace hR:=zad (by exact hR) hb1 (by exact hR.lt); replace hFr:=Fb.below (by exact hFr) hb1 (by exact hFr.lt); replace hbel:=Below.trans (by first | exact hbel | exact hbel.drew) (hb1.mono (by exact hbel.size)); obtain ⟨b0,b1,b2,b3⟩:=zaf hB; obtain ⟨a0,a1,a2,a3⟩:=zaf hA)
  | (go_at_call 138; refine (K3.out _ (by exact hFr)).mono ?_; rintro e w3 ⟨rfl,hb3⟩; replace hR:=zad (by exact hR) hb3 (by exact hR.lt); replace hFr:=Fb.below (by exact hFr) hb3 (by exact hFr.lt); replace hbel:=Below.trans (by first | exact hbel | exact hbel.drew) (hb3.mono (by exact hbel.size)); obtain ⟨f0,f1,f2,f3⟩:=zat hR; obtain ⟨d0,d1,d2,d3⟩:=zaf hR))
 all_goals
  clear a0 a1 a2 a3 b0 b1 b2 b3 f0 f1 f2 f3 d0 d1 d2 d3
  go_wp2
  refine bodyPost_ret (results_cell_row rfl _ _ (w.heap.size + 1 + 1) 27 #[vI vU (wd Z 0),vI vU (wd Z 1),vI vU (wd Z 2),vI vU (wd Z 3)] (0,0) _ rfl (blk4 (put4 hR fun j => .int .u64 (wd (Z) j))) Tryz.underlying27 rfl (by kernel_rfl)) rfl ⟨rfl,zaq hbel (by omega) _ _ _ _⟩
theorem pN_is (w : World) : Calls Tryz.prog 119 #[] w fun e w' => e = .returned (nv Pt.nn) ∧ Ext w w':=by
 obtain ⟨l0,l1,l2,l3⟩:=nn_words
 unfold nv nc
 rw [l0,l1,l2,l3]
 clear l0 l1 l2 l3
 go_enter Tryz.func119,Tryz.ntmps119
 go_wp2
 exact bodyPost_ret (results_cell_row rfl _ _ w.heap.size 27 #[vI vU 17562291160714782033,vI vU 13611842547513532036,vI vU 18446744073709551615,vI vU 18446744069414584320] (0,0) _ rfl (heap_alloc_last w _) Tryz.underlying27 rfl (by kernel_rfl)) rfl ⟨rfl,(Below.refl _ _).alloc (Nat.le_refl _) _⟩
theorem nn_odd : Pt.nn % 2 = 1 ∧ 2 < Pt.nn:=by decide +kernel
/-! ### digests -/
def dgL (bs : List Nat) (j : Nat) : Nat:=dByte (shaSt (fun i => bs.getD i 0) bs.length) j
theorem dgL_lt (bs : List Nat) (j : Nat) : dgL bs j < 256:=Nat.mod_lt _ (by decide)
theorem src_bs {w : World} {A : Option Addr} {bs : List Nat} (h : Bs w A bs) : Src w A bs.length (fun j => bs.getD j 0) w.heap.size :=
 h.2.imp id fun ⟨b,o,e,hb,hc⟩ => ⟨b,o,e,hb,by omega,hc⟩
/-! ### signatures -/
theorem on_of {X Y : Nat} (h : onB X Y false = true) : Pt.E256.on (some (Pt.F X,Pt.F Y)):=by
 have h1:=(onB_iff X Y false).1 h
 unfold Pt.isOn at h1
 rw [if_neg (by decide)] at h1
 exact h1.2.2
def vfL (X Y : Nat) (f : Bool) (y : Nat → Nat) (R S : Nat) : Bool:=if h : onB X Y false = true then !f && Pt.verB ⟨_,on_of h⟩ (num32 y) R S else false
theorem vfL_off {X Y : Nat} {f : Bool} (h : onB X Y f = false) (y : Nat → Nat) (R S : Nat) : vfL X Y f y R S = false:=by
 unfold vfL
 split
 ·
  rename_i h1
  cases f with
  | true => rfl
  | false => rw [h] at h1; cases h1
 ·
  rfl
theorem vfL_on (p : Pt.Q) (y : Nat → Nat) (R S : Nat) : vfL (Pt.pX p.1) (Pt.pY p.1) (Pt.pFar p.1) y R S = Pt.verB p (num32 y) R S:=by
 have hon:=onB_of p
 cases hf : Pt.pFar p.1 with
 | true =>
  have e : Pt.verB p (num32 y) R S = false:=by unfold Pt.verB; rw [hf]; rfl
  rw [e]
  unfold vfL
  split <;> rfl
 | false =>
  rw [hf] at hon
  unfold vfL
  rw [dif_pos hon,Bool.not_false,Bool.true_and]
  congr 1
  apply Subtype.ext
  refine Pt.p_inj ?_ ?_ ?_
  ·
   exact Nat.mod_eq_of_lt (Pt.pX_lt p.1)
  ·
   exact Nat.mod_eq_of_lt (Pt.pY_lt p.1)
  ·
   rw [hf]; rfl
def lowL : Low where
 dg:=dgL
 dgb:=dgL_lt
 vf:=vfL
structure CodeL : Prop where
 sum : ∀ A m c bs w,KT w → m = bs.length → m ≤ c → m ≤ 100000 → Bs w A bs → Calls Tryz.prog 65 #[.slice A m c] w fun e w' => e = .returned (dgv (dgL bs)) ∧ Ext w w'
 ver : ∀ X Y f y R S w,X < top → Y < top → R < top → S < top → (∀ j,y j < 256) → Calls Tryz.prog 64 #[qv X Y f,dgv y,gv R S] w fun e w' => e = .returned (.bool (vfL X Y f y R S)) ∧ Ext w w'
 parse_no : ∀ A m c w,m ≠ 64 → Calls Tryz.prog 62 #[.slice A m c] w fun e w' => e = .returned (.tuple #[gv 0 0,.iface 39 (.int .i64 2)]) ∧ Ext w w'
 parse_64 : ∀ A m c bs w,m = bs.length → m = 64 → m ≤ c → Bs w A bs → Calls Tryz.prog 62 #[.slice A m c] w fun e w' => e = .returned (.tuple #[gv (sigR bs) (sigS bs),.nilIface]) ∧ Ext w w'
end Go.Proofs.YthlbemnbmbmjhaaGreatDoor
namespace Go.Proofs.YthlbemnbmbmjhaaGreatDoor
open Go.ChangeShapes Go.WideShapes Go.ChangeAt Go.RowKit
open Go.Value renaming int → vI
open Go.IntKind renaming u64 → vU
open Go.Act renaming put → aP
open List renaming setIfInBounds_toArray → lA, set_cons_zero → lZ, set_cons_succ → lS
theorem KeysMore_lifted (C : Code10 lowL KT) (os : Os) (started : os.Started) (H : Type) (enc : TypeId × Value → H) :
  ReturnsInHanded {} Tryz.checked os 6 .any (fun w args => (Rows.keysMoreSpec.pre enc Tryz.prog Tryz.f6 [] false w args ∧ laidMetH Tryz.prog Rows.keysMoreRow.laid w) ∧ sizedMet enc Tryz.prog Tryz.f6 (OpenSpec.ofChange Rows.keysMoreSpec) false w args)
   (Rows.keysMoreSpec.post enc Tryz.prog Tryz.f6 false true false false):=by
 refine returnsInHanded_of_change_and (C:=Tryz.checked) (X:=fun w _ => laidMetH Tryz.prog Rows.keysMoreRow.laid w) (fun _ _ _ hh h => h.of_heap hh) ownT started (by kernel_rfl) Tryz.func6
  (ChangeSpec.witness_shaped (enc:=enc) (C:=Tryz.checked) (os:=os) (X:=fun w _ => laidMetH Tryz.prog Rows.keysMoreRow.laid w) false (World.doorLaid Tryz.prog 14 os) #[.slice none 0 0,.agg #[.int .i64 0,vI vU 0,vI vU 0,vI vU 0,vI vU 0,vI vU 0,vI vU 0,vI vU 0,vI vU 0,.bool false,.int .i64 0,.int .i64 0],.slice none 0 0,.int .i64 0] 8 rfl (World.shaped_of_RefB (by kernel_rfl) (by kernel_rfl)) (by kernel_rfl) (by kernel_rfl) (by kernel_rfl) (door_met os _)) ?_
 intro W base args ds gs before hval0 hW _ _ hL _
 have hval : ∀ (j : Nat) t v,Tryz.f6.params[j]? = some t → args[j]? = some v → Value.okWide Tryz.prog W .any base t v:=hval0
 have hW':=hW
 obtain ⟨p,q,hA0,hV,rfl,_,_⟩:=hW
 have hA : DataW.TrodAll enc Tryz.prog W 0 (fun _ => true) true Tryz.f6.params.toList args.toList ds p:=hA0
 rw [Tryz.params6] at hA hval
 obtain ⟨v0,v1,v2,v3,d0,d1,d2,d3,p0,p1,p2,p3,rfl,rfl,rfl,h0,h1,h2,h3⟩:=trodAll_four hA
 obtain ⟨rfl,rfl⟩:=trodVars_none hV
 have h0k:=h0
 obtain ⟨fuel0,hf0⟩:=h0
 obtain ⟨a0,len0,cap0,rfl⟩:=okWide_slice Tryz.underlying22 (hval 0 22 v0 rfl rfl)
 have h1k:=h1
 have h2k:=h2
 obtain ⟨fuel2,hf2⟩:=h2
 obtain ⟨a2,len2,cap2,rfl⟩:=okWide_slice Tryz.underlying33 (hval 2 33 v2 rfl rfl)
 have h3k:=h3
 clear hA0 hval0
 simp only [List.append_nil] at hW'
 have hlt0 : ∀ x ∈ p0,x.block < W.heap.size:=fun x hx => by simpa using hW'.lt x (by simp [hx])
 obtain ⟨l0,hF0,hT0,hW0⟩:=ks_of (v:=.slice a0 len0 cap0) (by simpa [Value.cells] using hf0)
 have hlt1 : ∀ x ∈ p1,x.block < W.heap.size:=fun x hx => by simpa using hW'.lt x (by simp [hx])
 obtain ⟨k1,hG1,rfl⟩:=open_ky (hval 1 55 v1 rfl rfl) h1
 have hlt2 : ∀ x ∈ p2,x.block < W.heap.size:=fun x hx => by simpa using hW'.lt x (by simp [hx])
 obtain ⟨A2,m2,c2,bs2,e2,hm2,hS2,hc2⟩:=bs_of (v:=.slice a2 len2 cap2) (by simpa [Value.cells] using hf2)
 obtain ⟨rfl,rfl,rfl⟩ : a2 = A2 ∧ len2 = m2 ∧ cap2 = c2:=by injection e2 with x y z; exact ⟨x,y,z⟩
 have hlt3 : ∀ x ∈ p3,x.block < W.heap.size:=fun x hx => by simpa using hW'.lt x (by simp [hx])
 obtain ⟨z3,rfl,_,_,w3⟩:=open_int Tryz.underlying3 (hval 3 3 v3 rfl rfl) h3
 obtain ⟨lo3,hi3⟩:=bounds_i64 w3
 refine (kmore_walk C _ l0 k1 a2 len2 cap2 bs2 z3 hm2 hc2 W (kt_of_laid hL) hF0 hT0 hW0 hG1.1 hS2).mono fun e W' ⟨he,hb⟩ => ?_
 subst he
 exact ⟨_,rfl,_,_,_,[],_,[],hW',trodAll_mk1 (shut_bool Tryz.underlying4 true),by
  have h2:=trodAll_mk4 (Below.trod laidOutT (by kernel_rfl) (of_decide_eq_true (by kernel_rfl)) h0k hb hlt0) (Below.trod laidOutT (by kernel_rfl) (of_decide_eq_true (by kernel_rfl)) h1k hb hlt1) (Below.trod laidOutT (by kernel_rfl) (of_decide_eq_true (by kernel_rfl)) h2k hb hlt2) (Below.trod laidOutT (by kernel_rfl) (of_decide_eq_true (by kernel_rfl)) h3k hb hlt3)
  try simp only [List.append_nil] at h2
  exact h2,rfl,hb.frame _,fun h => by cases h⟩
theorem KeysMore_over (C : Code10 lowL KT) : Rows.keysMoreRow.holds Tryz.pinned (OpenSpec.ofChange Rows.keysMoreSpec) :=
 OpenClaim.holds_of_wide 6 Tryz.f6 rfl rfl rfl rfl rfl rfl rfl ⟨rfl,rfl,rfl,rfl,rfl⟩ rfl rfl rfl rfl rfl (by kernel_rfl) Tryz.func6 (by kernel_rfl)
  (of_decide_eq_true (by kernel_rfl)) (by unfold Func.isWrapper; rw [if_neg (of_decide_eq_false (by kernel_rfl))]; exact ⟨rfl,rfl⟩)
  (fun os started H enc _ => KeysMore_lifted C os started H enc)
theorem KeysMore_of (C : Code10 lowL KT) : Rows.KeysMoreCardSaid :=
 Claim7.holds_tied_plain_at .later [] [.data] true _ true
  (KeysMore_over C) (fun _ h => by cases h) (by kernel_rfl) (fun _ h => by cases h) keysMore_row_tie rfl ⟨rfl,rfl⟩ (by kernel_rfl) rfl
  (fun f fn hf hfn => by
   obtain rfl : f = 6:=Option.some.inj ((show Tryz.prog.funcNamed "clapper/clapperlaw10.KeysMore" = some 6 by kernel_rfl).symm.trans hf) |>.symm
   obtain rfl : fn = Tryz.f6:=(Option.some.inj (Tryz.func6.symm.trans hfn)).symm
   exact ⟨by kernel_rfl,fun j t ht => by
    rw [Tryz.params6] at ht
    have hm : t ∈ [22,55,33,3]:=by simpa using Array.mem_of_getElem? ht
    have hall : ([22,55,33,3].all fun u => !Tryz.prog.wantsStandIn u) = true:=by kernel_rfl
    exact (show Tryz.prog.wantsStandIn t = false by simpa using List.all_eq_true.1 hall t hm)⟩)
  (by kernel_rfl)
end Go.Proofs.YthlbemnbmbmjhaaGreatDoor
namespace Go.Proofs.YthlbemnbmbmjhaaGreatDoor
open Go.RowKit
open Go.Value renaming int → vI
open Go.IntKind renaming u64 → vU
open Go.Act renaming put → aP
open List renaming setIfInBounds_toArray → lA, set_cons_zero → lZ, set_cons_succ → lS
theorem fsub2_calls (b X Y M : Nat) (N : Int) (Q Z : Nat) (hX : X < top) (hY : Y < top) (hK : Fok M N Q) (hZ : (X % M + M - Y % M) % M = Z) (w : World) (hF : Fb w b M N Q) :
  Calls Tryz.prog 111 #[.pointer (some ⟨b,0,none⟩),.agg #[vI vU (wd X 0),vI vU (wd X 1),vI vU (wd X 2),vI vU (wd X 3)],.agg #[vI vU (wd Y 0),vI vU (wd Y 1),vI vU (wd Y 2),vI vU (wd Y 3)]] w fun e w' => e = .returned (.agg #[vI vU (wd Z 0),vI vU (wd Z 1),vI vU (wd Z 2),vI vU (wd Z 3)]) ∧ Below w.heap.size w w':=by
 have hM0 : 0 < M:=by have:=hK.m2; omega
 have hX2:=Nat.mod_lt X hM0
 have hY2:=Nat.mod_lt Y hM0
 have K3:=veil (fun W (h : Fb W b M N Q) => zig b (X % M) (Y % M) M N Q Z hX2 hY2 hK.mt hZ W h)
 have HK:=veil hK
 clear hK hZ hM0 hX2 hY2
 have hA : (((w.alloc (.cells #[vI vU (wd X 0),vI vU (wd X 1),vI vU (wd X 2),vI vU (wd X 3)] 27)).alloc (.cells #[vI vU (wd Y 0),vI vU (wd Y 1),vI vU (wd Y 2),vI vU (wd Y 3)] 27)).alloc (.cells #[vI vU 0,vI vU 0,vI vU 0,vI vU 0] 27)).rowIs w.heap.size 27 4 (fun j => .int .u64 (wd X j)):=((zai (n:=4) (by simp) rfl (arr4 fun j => .int .u64 (wd X j))).alloc _).alloc _
 have hB : (((w.alloc (.cells #[vI vU (wd X 0),vI vU (wd X 1),vI vU (wd X 2),vI vU (wd X 3)] 27)).alloc (.cells #[vI vU (wd Y 0),vI vU (wd Y 1),vI vU (wd Y 2),vI vU (wd Y 3)] 27)).alloc (.cells #[vI vU 0,vI vU 0,vI vU 0,vI vU 0] 27)).rowIs (w.heap.size + 1) 27 4 (fun j => .int .u64 (wd Y j)):=(zai (n:=4) (by simp) rfl (arr4 fun j => .int .u64 (wd Y j))).alloc _
 have hR : (((w.alloc (.cells #[vI vU (wd X 0),vI vU (wd X 1),vI vU (wd X 2),vI vU (wd X 3)] 27)).alloc (.cells #[vI vU (wd Y 0),vI vU (wd Y 1),vI vU (wd Y 2),vI vU (wd Y 3)] 27)).alloc (.cells #[vI vU 0,vI vU 0,vI vU 0,vI vU 0] 27)).rowIs (w.heap.size + 1 + 1) 27 4 (fun _ => .int .u64 0):=zai (n:=4) (by simp) rfl (arr4 fun _ => .int .u64 0)
 have hbel : Below w.heap.size w (((w.alloc (.cells #[vI vU (wd X 0),vI vU (wd X 1),vI vU (wd X 2),vI vU (wd X 3)] 27)).alloc (.cells #[vI vU (wd Y 0),vI vU (wd Y 1),vI vU (wd Y 2),vI vU (wd Y 3)] 27)).alloc (.cells #[vI vU 0,vI vU 0,vI vU 0,vI vU 0] 27)):=(((Below.refl _ _).alloc (by simp) _).alloc (by simp) _).alloc (by simp; omega) _
 have hFr : Fb (((w.alloc (.cells #[vI vU (wd X 0),vI vU (wd X 1),vI vU (wd X 2),vI vU (wd X 3)] 27)).alloc (.cells #[vI vU (wd Y 0),vI vU (wd Y 1),vI vU (wd Y 2),vI vU (wd Y 3)] 27)).alloc (.cells #[vI vU 0,vI vU 0,vI vU 0,vI vU 0] 27)) b M N Q:=(((hF).alloc _).alloc _).alloc _
 have hbs:=hF.lt
 clear hF
 go_enter Tryz.func111,Tryz.ntmps111
 go_wp2_with fail
 generalize (((w.alloc (.cells #[vI vU (wd X 0),vI vU (wd X 1),vI vU (wd X 2),vI vU (wd X 3)] 27)).alloc (.cells #[vI vU (wd Y 0),vI vU (wd Y 1),vI vU (wd Y 2),vI vU (wd Y 3)] 27)).alloc (.cells #[vI vU 0,vI vU 0,vI vU 0,vI vU 0] 27)) = w0 at *
 obtain ⟨a0,a1,a2,a3⟩:=zaf hA
 obtain ⟨b0,b1,b2,b3⟩:=zaf hB
 obtain ⟨f0,f1,f2,f3⟩:=zat hR
 obtain ⟨d0,d1,d2,d3⟩:=zaf hR
 go_region_with (first
  | (go_at_call 139; refine (fcut_calls b _ M N Q _ (by assumption) HK.out rfl _ (by exact hFr)).mono ?_; rintro e w1 ⟨rfl,hb1⟩; replace hB:=zad (by exact hB) hb1 (by exact hB.lt); replace hA:=zad (by exact hA) hb1 (by exact hA.lt); replace hR:=zad (by exact hR) hb1 (by exact hR.lt); replace hFr:=Fb.below (by exact hFr) hb1 (by exact hFr.lt); replace hbel:=Below.trans (by first | exact hbel | exact hbel.drew) (hb1.mono (by exact hbel.size)); obtain ⟨b0,b1,b2,b3⟩:=zaf hB; obtain ⟨a0,a1,a2,a3⟩:=zaf hA)
  | (go_at_call 124; refine (K3.out _ (by exact hFr)).mono ?_; rintro e w3 ⟨rfl,hb3⟩; replace hR:=zad (by exact hR) hb3 (by exact hR.lt); replace hFr:=Fb.below (by exact hFr) hb3 (by exact hFr.lt); replace hbel:=Below.trans (by first | exact hbel | exact hbel.drew) (hb3.mono (by exact hbel.size)); obtain ⟨f0,f1,f2,f3⟩:=zat hR; obtain ⟨d0,d1,d2,d3⟩:=zaf hR))
 all_goals
  clear a0 a1 a2 a3 b0 b1 b2 b3 f0 f1 f2 f3 d0 d1 d2 d3
  go_wp2
  refine bodyPost_ret (results_cell_row rfl _ _ (w.heap.size + 1 + 1) 27 #[vI vU (wd Z 0),vI vU (wd Z 1),vI vU (wd Z 2),vI vU (wd Z 3)] (0,0) _ rfl (blk4 (put4 hR fun j => .int .u64 (wd (Z) j))) Tryz.underlying27 rfl (by kernel_rfl)) rfl ⟨rfl,zaq hbel (by omega) _ _ _ _⟩
theorem fmul2_calls (b X Y M : Nat) (N : Int) (Q Z : Nat) (hX : X < top) (hY : Y < top) (hK : Fok M N Q) (hZ : X * Y % M = Z) (w : World) (hF : Fb w b M N Q) :
  Calls Tryz.prog 89 #[.pointer (some ⟨b,0,none⟩),.agg #[vI vU (wd X 0),vI vU (wd X 1),vI vU (wd X 2),vI vU (wd X 3)],.agg #[vI vU (wd Y 0),vI vU (wd Y 1),vI vU (wd Y 2),vI vU (wd Y 3)]] w fun e w' => e = .returned (.agg #[vI vU (wd Z 0),vI vU (wd Z 1),vI vU (wd Z 2),vI vU (wd Z 3)]) ∧ Below w.heap.size w w':=by
 have K1:=veil (fun W => kmul X Y _ rfl hX hY W)
 have K2:=veil (fun W (h : Fb W b M N Q) => cutw_calls b (X * Y) M N Q Z (mul_lt8 hX hY) hK hZ W h)
 clear hX hY hK hZ
 generalize X * Y = P at *
 have hA : (((w.alloc (.cells #[vI vU (wd X 0),vI vU (wd X 1),vI vU (wd X 2),vI vU (wd X 3)] 27)).alloc (.cells #[vI vU (wd Y 0),vI vU (wd Y 1),vI vU (wd Y 2),vI vU (wd Y 3)] 27)).alloc (.cells #[vI vU 0,vI vU 0,vI vU 0,vI vU 0] 27)).rowIs w.heap.size 27 4 (fun j => .int .u64 (wd X j)):=((zai (n:=4) (by simp) rfl (arr4 fun j => .int .u64 (wd X j))).alloc _).alloc _
 have hB : (((w.alloc (.cells #[vI vU (wd X 0),vI vU (wd X 1),vI vU (wd X 2),vI vU (wd X 3)] 27)).alloc (.cells #[vI vU (wd Y 0),vI vU (wd Y 1),vI vU (wd Y 2),vI vU (wd Y 3)] 27)).alloc (.cells #[vI vU 0,vI vU 0,vI vU 0,vI vU 0] 27)).rowIs (w.heap.size + 1) 27 4 (fun j => .int .u64 (wd Y j)):=(zai (n:=4) (by simp) rfl (arr4 fun j => .int .u64 (wd Y j))).alloc _
 have hR : (((w.alloc (.cells #[vI vU (wd X 0),vI vU (wd X 1),vI vU (wd X 2),vI vU (wd X 3)] 27)).alloc (.cells #[vI vU (wd Y 0),vI vU (wd Y 1),vI vU (wd Y 2),vI vU (wd Y 3)] 27)).alloc (.cells #[vI vU 0,vI vU 0,vI vU 0,vI vU 0] 27)).rowIs (w.heap.size + 1 + 1) 27 4 (fun _ => .int .u64 0):=zai (n:=4) (by simp) rfl (arr4 fun _ => .int .u64 0)
 have hbel : Below w.heap.size w (((w.alloc (.cells #[vI vU (wd X 0),vI vU (wd X 1),vI vU (wd X 2),vI vU (wd X 3)] 27)).alloc (.cells #[vI vU (wd Y 0),vI vU (wd Y 1),vI vU (wd Y 2),vI vU (wd Y 3)] 27)).alloc (.cells #[vI vU 0,vI vU 0,vI vU 0,vI vU 0] 27)):=(((Below.refl _ _).alloc (by simp) _).alloc (by simp) _).alloc (by simp; omega) _
 have hFr : Fb (((w.alloc (.cells #[vI vU (wd X 0),vI vU (wd X 1),vI vU (wd X 2),vI vU (wd X 3)] 27)).alloc (.cells #[vI vU (wd Y 0),vI vU (wd Y 1),vI vU (wd Y 2),vI vU (wd Y 3)] 27)).alloc (.cells #[vI vU 0,vI vU 0,vI vU 0,vI vU 0] 27)) b M N Q:=(((hF).alloc _).alloc _).alloc _
 have hbs:=hF.lt
 clear hF
 go_enter Tryz.func89,Tryz.ntmps89
 obtain ⟨a0,a1,a2,a3⟩:=zaf hA
 obtain ⟨b0,b1,b2,b3⟩:=zaf hB
 go_wp2_with fail
 refine (K1.out _).mono ?_
 rintro e w1 ⟨rfl,hb1⟩
 replace hR:=zad (by exact hR) hb1 (by exact hR.lt)
 replace hFr:=Fb.below (by exact hFr) hb1 (by exact hFr.lt)
 replace hbel:=Below.trans (by first | exact hbel | exact hbel.drew) (hb1.mono (by exact hbel.size))
 clear a0 a1 a2 a3 b0 b1 b2 b3 hA hB hb1
 go_wp2_with fail
 refine (K2.out _ hFr).mono ?_
 rintro e w2 ⟨rfl,hb2⟩
 replace hR:=zad (by exact hR) hb2 (by exact hR.lt)
 replace hFr:=Fb.below (by exact hFr) hb2 (by exact hFr.lt)
 replace hbel:=Below.trans (by first | exact hbel | exact hbel.drew) (hb2.mono (by exact hbel.size))
 clear hb2 hFr
 obtain ⟨f0,f1,f2,f3⟩:=zat hR
 obtain ⟨d0,d1,d2,d3⟩:=zaf hR
 go_wp2
 refine bodyPost_ret (results_cell_row rfl _ _ (w.heap.size + 1 + 1) 27 #[vI vU (wd Z 0),vI vU (wd Z 1),vI vU (wd Z 2),vI vU (wd Z 3)] (0,0) _ rfl (blk4 (put4 hR fun j => .int .u64 (wd (Z) j))) Tryz.underlying27 rfl (by kernel_rfl)) rfl ⟨rfl,zaq hbel (by omega) _ _ _ _⟩
def Fp (w : World) (b : Nat) : Prop:=∃ N Q,Fok Pt.pp N Q ∧ Fb w b Pt.pp N Q
theorem Fp.ext {w w' : World} {b : Nat} (h : Fp w b) (k : Ext w w') : Fp w' b:=by
 obtain ⟨N,Q,h1,h2⟩:=h
 exact ⟨N,Q,h1,h2.call k⟩
theorem Fp.lt {w : World} {b : Nat} (h : Fp w b) : b < w.heap.size:=by
 obtain ⟨N,Q,h1,h2⟩:=h
 exact h2.lt
abbrev Fe:=Fin Pt.pp
def sc (x y z : Nat) : Array Value:=#[vI vU (wd x 0),vI vU (wd x 1),vI vU (wd x 2),vI vU (wd x 3),vI vU (wd y 0),vI vU (wd y 1),vI vU (wd y 2),vI vU (wd y 3),vI vU (wd z 0),vI vU (wd z 1),vI vU (wd z 2),vI vU (wd z 3)]
def sv (x y z : Nat) : Value:=.agg (sc x y z)
def fv (k b : Nat) : Value:=.func (.func k) #[ptrTo b] #[]
def cc (b : Nat) : Array Value:=#[fv 110 b,fv 111 b,fv 89 b,fv 87 b]
def cv (b : Nat) : Value:=.agg (cc b)
theorem sc_one (x y z : Nat) : (sc x y z).all (·.oneCell') = true:=by simp [sc,Value.oneCell']
theorem cc_one (b : Nat) : (cc b).all (·.oneCell') = true:=by simp [cc,fv,Value.oneCell']
theorem iS (x y z : Nat) : (Tryz.prog.info? 177).map (·.size) = some (sc x y z).size:=by kernel_rfl
theorem iK (b : Nat) : (Tryz.prog.info? 126).map (·.size) = some (cc b).size:=by kernel_rfl
theorem zdk (x : Fe) : x.val < top:=Nat.lt_trans x.isLt zhy
theorem fe_mod (x : Fe) : x.val % Pt.pp = x.val:=Nat.mod_eq_of_lt x.isLt
theorem kadd_p {b : Nat} {x y t : Fe} (ht : t = x + y) {w : World} (hF : Fp w b) : Calls Tryz.prog 110 #[ptrTo b,nv x.val,nv y.val] w fun e w' => e = .returned (nv t.val) ∧ Ext w w':=by
 obtain ⟨N,Q,h1,h2⟩:=hF
 exact fadd2_calls b x.val y.val Pt.pp N Q t.val (zdk x) (zdk y) h1 (by rw [fe_mod,fe_mod,Pt.v_add,ht]) w h2
theorem zdc {b : Nat} {x y t : Fe} (ht : t = x - y) {w : World} (hF : Fp w b) : Calls Tryz.prog 111 #[ptrTo b,nv x.val,nv y.val] w fun e w' => e = .returned (nv t.val) ∧ Ext w w':=by
 obtain ⟨N,Q,h1,h2⟩:=hF
 exact fsub2_calls b x.val y.val Pt.pp N Q t.val (zdk x) (zdk y) h1 (by rw [fe_mod,fe_mod,Pt.v_sub,ht]) w h2
theorem zbg {b : Nat} {x y t : Fe} (ht : t = x * y) {w : World} (hF : Fp w b) : Calls Tryz.prog 89 #[ptrTo b,nv x.val,nv y.val] w fun e w' => e = .returned (nv t.val) ∧ Ext w w':=by
 obtain ⟨N,Q,h1,h2⟩:=hF
 exact fmul2_calls b x.val y.val Pt.pp N Q t.val (zdk x) (zdk y) h1 (by rw [Pt.v_mul,ht]) w h2
theorem kinv_p {b : Nat} {x t : Fe} (hx : x ≠ 0) (ht : t = Pt.E256.inv x) {w : World} (hF : Fp w b) : Calls Tryz.prog 87 #[ptrTo b,nv x.val] w fun e w' => e = .returned (.tuple #[nv t.val,.nilIface]) ∧ Ext w w':=by
 obtain ⟨N,Q,h1,h2⟩:=hF
 refine (zih b x.val Pt.pp N Q (zdk x) h1 w h2).mono ?_
 rintro e w' ⟨⟨y,hy,hi,rfl⟩,hb⟩
 have hg:=Pt.v_gcd hx
 rw [zif hg,Pt.v_inv hy (hi hg),ht]
 exact ⟨rfl,hb⟩
theorem kinv_z {b : Nat} {w : World} (hF : Fp w b) : Calls Tryz.prog 87 #[ptrTo b,nv 0] w fun e w' => e = .returned (.tuple #[nv 0,.iface 39 (.int .i64 4)]) ∧ Ext w w':=by
 obtain ⟨N,Q,h1,h2⟩:=hF
 refine (zih b 0 Pt.pp N Q (Nat.two_pow_pos 256) h1 w h2).mono ?_
 rintro e w' ⟨⟨y,hy,hi,rfl⟩,hb⟩
 have hg : ¬ Nat.gcd 0 Pt.pp = 1:=by rw [Nat.gcd_zero_left]; decide +kernel
 rw [invRet_no hg]
 exact ⟨rfl,hb⟩
/-! ### operations -/
section
variable {P : Program} {o : Oper} {a : Act} {w : World}
end
theorem zgu (W : World) : (isAgg 87).run Tryz.prog W = .ok false W:=by simp [isAgg,go_sem]
section
variable (g : Nat) (W : World)
theorem fldK0 : (Instr.fieldAt 126 (ptrTo g) 0).run Tryz.prog W = .ok (.pointer (some ⟨g,0,none⟩)) W:=by simp [Instr.fieldAt,go_sem]
theorem fldK1 : (Instr.fieldAt 126 (ptrTo g) 1).run Tryz.prog W = .ok (.pointer (some ⟨g,1,none⟩)) W:=by simp [Instr.fieldAt,go_sem]
theorem fldK2 : (Instr.fieldAt 126 (ptrTo g) 2).run Tryz.prog W = .ok (.pointer (some ⟨g,2,none⟩)) W:=by simp [Instr.fieldAt,go_sem]
theorem hzS : (Instr.alloc 177 true (.tuple #[])).run Tryz.prog W = .ok (ptrTo W.heap.size) (W.alloc (.cells #[vI vU 0,vI vU 0,vI vU 0,vI vU 0,vI vU 0,vI vU 0,vI vU 0,vI vU 0,vI vU 0,vI vU 0,vI vU 0,vI vU 0] 177)):=by simp [Instr.alloc,go_sem]
theorem hzK : (Instr.alloc 126 true (.tuple #[])).run Tryz.prog W = .ok (ptrTo W.heap.size) (W.alloc (.cells #[.nilFunc,.nilFunc,.nilFunc,.nilFunc] 126)):=by simp [Instr.alloc,go_sem]
theorem bldK (b : Nat) : (Instr.build 126 [(0,fv 110 b),(1,fv 111 b),(2,fv 89 b),(3,fv 87 b)].toArray).run Tryz.prog W = .ok (cv b) W:=by simp [Instr.build,go_sem,fv,cv,cc]
end
theorem he_kAdd (args : Array Value) (W : World) : (callFunc 110 args).run Tryz.prog W = .ok (.enter 110 args) W:=zab Tryz.func110 rfl rfl args W
theorem he_kSub (args : Array Value) (W : World) : (callFunc 111 args).run Tryz.prog W = .ok (.enter 111 args) W:=zab Tryz.func111 rfl rfl args W
theorem he_kMul (args : Array Value) (W : World) : (callFunc 89 args).run Tryz.prog W = .ok (.enter 89 args) W:=zab Tryz.func89 rfl rfl args W
theorem zcx {b : Nat} {x t : Fe} (ht : t = x + x) {w : World} (hF : Fp w b) :
  Calls Tryz.prog 141 #[cv b,nv x.val] w fun e w' => e = .returned (nv t.val) ∧ Ext w w':=by
 have kt:=veil ht
 clear ht
 exact auto0 Tryz.func141 [cv b,nv x.val] [
  .call _ _ _ fun W hW => kadd_p kt.out (hF.ext hW)] (nv t.val) (by kernel_rfl)
theorem trp_calls {b : Nat} {x t : Fe} (ht : t = x + x + x) {w : World} (hF : Fp w b) :
  Calls Tryz.prog 114 #[cv b,nv x.val] w fun e w' => e = .returned (nv t.val) ∧ Ext w w':=by
 obtain ⟨y,hy⟩ : ∃ t : Fe,t = x + x:=⟨_,rfl⟩
 rw [← hy] at ht
 have ky:=veil hy
 clear hy
 have kt:=veil ht
 clear ht
 exact auto0 Tryz.func114 [cv b,nv x.val] [
  .call _ _ _ fun W hW => zcx ky.out (hF.ext hW),
  .call _ _ _ fun W hW => kadd_p kt.out (hF.ext hW)] (nv t.val) (by kernel_rfl)
def twice3 (x y z : Fe) : Fe × Fe × Fe :=
 let zz : Fe:=z * z
 let yy : Fe:=y * y
 let s : Fe:=x - zz
 let u : Fe:=x + zz
 let su : Fe:=s * u
 let m : Fe:=su + su + su
 let q : Fe:=x * yy
 let q2 : Fe:=q + q
 let cr : Fe:=q2 + q2
 let mm : Fe:=m * m
 let c2 : Fe:=cr + cr
 let X : Fe:=mm - c2
 let e : Fe:=yy * yy
 let e2 : Fe:=e + e
 let e4 : Fe:=e2 + e2
 let tl : Fe:=e4 + e4
 let d : Fe:=cr - X
 let md : Fe:=m * d
 let Y : Fe:=md - tl
 let yz : Fe:=y * z
 let Z : Fe:=yz + yz
 (X,Y,Z)
theorem twice_calls {b : Nat} (x y z : Fe) {w : World} (hF : Fp w b) :
  Calls Tryz.prog 146 #[cv b,sv x.val y.val z.val] w fun e w' => e = .returned (sv (twice3 x y z).1.val (twice3 x y z).2.1.val (twice3 x y z).2.2.val) ∧ Ext w w':=by
 obtain ⟨zz,hzz⟩ : ∃ t : Fe,t = z * z:=⟨_,rfl⟩
 obtain ⟨yy,hyy⟩ : ∃ t : Fe,t = y * y:=⟨_,rfl⟩
 obtain ⟨s,hs⟩ : ∃ t : Fe,t = x - zz:=⟨_,rfl⟩
 obtain ⟨u,hu⟩ : ∃ t : Fe,t = x + zz:=⟨_,rfl⟩
 obtain ⟨su,hsu⟩ : ∃ t : Fe,t = s * u:=⟨_,rfl⟩
 obtain ⟨m,hm⟩ : ∃ t : Fe,t = su + su + su:=⟨_,rfl⟩
 obtain ⟨q,hq⟩ : ∃ t : Fe,t = x * yy:=⟨_,rfl⟩
 obtain ⟨q2,hq2⟩ : ∃ t : Fe,t = q + q:=⟨_,rfl⟩
 obtain ⟨cr,hcr⟩ : ∃ t : Fe,t = q2 + q2:=⟨_,rfl⟩
 obtain ⟨mm,hmm⟩ : ∃ t : Fe,t = m * m:=⟨_,rfl⟩
 obtain ⟨c2,hc2⟩ : ∃ t : Fe,t = cr + cr:=⟨_,rfl⟩
 obtain ⟨X,hX⟩ : ∃ t : Fe,t = mm - c2:=⟨_,rfl⟩
 obtain ⟨e,he⟩ : ∃ t : Fe,t = yy * yy:=⟨_,rfl⟩
 obtain ⟨e2,he2⟩ : ∃ t : Fe,t = e + e:=⟨_,rfl⟩
 obtain ⟨e4,he4⟩ : ∃ t : Fe,t = e2 + e2:=⟨_,rfl⟩
 obtain ⟨tl,htl⟩ : ∃ t : Fe,t = e4 + e4:=⟨_,rfl⟩
 obtain ⟨d,hd⟩ : ∃ t : Fe,t = cr - X:=⟨_,rfl⟩
 obtain ⟨md,hmd⟩ : ∃ t : Fe,t = m * d:=⟨_,rfl⟩
 obtain ⟨Y,hY⟩ : ∃ t : Fe,t = md - tl:=⟨_,rfl⟩
 obtain ⟨yz,hyz⟩ : ∃ t : Fe,t = y * z:=⟨_,rfl⟩
 obtain ⟨Z,hZ⟩ : ∃ t : Fe,t = yz + yz:=⟨_,rfl⟩
 have hfin : twice3 x y z = (X,Y,Z):=by
  subst hZ hyz hY hmd hd htl he4 he2 he hX hc2 hmm hcr hq2 hq hm hsu hu hs hyy hzz
  rfl
 rw [hfin]
 clear hfin
 have kzz:=veil hzz
 have kyy:=veil hyy
 have ks:=veil hs
 have ku:=veil hu
 have ksu:=veil hsu
 have km:=veil hm
 have kq:=veil hq
 have kq2:=veil hq2
 have kcr:=veil hcr
 have kmm:=veil hmm
 have kc2:=veil hc2
 have kX:=veil hX
 have ke:=veil he
 have ke2:=veil he2
 have ke4:=veil he4
 have ktl:=veil htl
 have kd:=veil hd
 have kmd:=veil hmd
 have kY:=veil hY
 have kyz:=veil hyz
 have kZ:=veil hZ
 clear hZ hyz hY hmd hd htl he4 he2 he hX hc2 hmm hcr hq2 hq hm hsu hu hs hyy hzz
 show Calls Tryz.prog 146 #[cv b,sv x.val y.val z.val] w fun e w' => e = .returned (sv X.val Y.val Z.val) ∧ Ext w w'
 exact auto0 Tryz.func146 [cv b,sv x.val y.val z.val] [
  .call _ _ _ fun W hW => zbg kzz.out (hF.ext hW),
  .call _ _ _ fun W hW => zbg kyy.out (hF.ext hW),
  .call _ _ _ fun W hW => zdc ks.out (hF.ext hW),
  .call _ _ _ fun W hW => kadd_p ku.out (hF.ext hW),
  .call _ _ _ fun W hW => zbg ksu.out (hF.ext hW),
  .call _ _ _ fun W hW => trp_calls km.out (hF.ext hW),
  .call _ _ _ fun W hW => zbg kq.out (hF.ext hW),
  .call _ _ _ fun W hW => zcx kq2.out (hF.ext hW),
  .call _ _ _ fun W hW => zcx kcr.out (hF.ext hW),
  .call _ _ _ fun W hW => zbg kmm.out (hF.ext hW),
  .call _ _ _ fun W hW => zcx kc2.out (hF.ext hW),
  .call _ _ _ fun W hW => zdc kX.out (hF.ext hW),
  .call _ _ _ fun W hW => zbg ke.out (hF.ext hW),
  .call _ _ _ fun W hW => zcx ke2.out (hF.ext hW),
  .call _ _ _ fun W hW => zcx ke4.out (hF.ext hW),
  .call _ _ _ fun W hW => zcx ktl.out (hF.ext hW),
  .call _ _ _ fun W hW => zdc kd.out (hF.ext hW),
  .call _ _ _ fun W hW => zbg kmd.out (hF.ext hW),
  .call _ _ _ fun W hW => zdc kY.out (hF.ext hW),
  .call _ _ _ fun W hW => zbg kyz.out (hF.ext hW),
  .call _ _ _ fun W hW => zcx kZ.out (hF.ext hW)] (sv X.val Y.val Z.val) (by kernel_rfl)
theorem pP_calls (w : World) : Calls Tryz.prog 109 #[] w fun e w' => e = .returned (.agg #[vI vU (wd (Pt.pp) 0),vI vU (wd (Pt.pp) 1),vI vU (wd (Pt.pp) 2),vI vU (wd (Pt.pp) 3)]) ∧ Below w.heap.size w w':=by
 obtain ⟨l0,l1,l2,l3⟩:=pp_lits
 rw [l0,l1,l2,l3]
 clear l0 l1 l2 l3
 go_enter Tryz.func109,Tryz.ntmps109
 go_wp2
 exact bodyPost_ret (results_cell_row rfl _ _ w.heap.size 27 #[vI vU 18446744073709551615,vI vU 4294967295,vI vU 0,vI vU 18446744069414584321] (0,0) _ rfl (heap_alloc_last w _) Tryz.underlying27 rfl (by kernel_rfl)) rfl ⟨rfl,(Below.refl _ _).alloc (Nat.le_refl _) _⟩
theorem pN_calls (w : World) : Calls Tryz.prog 119 #[] w fun e w' => e = .returned (.agg #[vI vU (wd (Pt.nn) 0),vI vU (wd (Pt.nn) 1),vI vU (wd (Pt.nn) 2),vI vU (wd (Pt.nn) 3)]) ∧ Below w.heap.size w w':=by
 obtain ⟨l0,l1,l2,l3⟩:=nn_lits
 rw [l0,l1,l2,l3]
 clear l0 l1 l2 l3
 go_enter Tryz.func119,Tryz.ntmps119
 go_wp2
 exact bodyPost_ret (results_cell_row rfl _ _ w.heap.size 27 #[vI vU 17562291160714782033,vI vU 13611842547513532036,vI vU 18446744073709551615,vI vU 18446744069414584320] (0,0) _ rfl (heap_alloc_last w _) Tryz.underlying27 rfl (by kernel_rfl)) rfl ⟨rfl,(Below.refl _ _).alloc (Nat.le_refl _) _⟩
theorem bb_calls (w : World) : Calls Tryz.prog 115 #[] w fun e w' => e = .returned (.agg #[vI vU (wd (Pt.bb) 0),vI vU (wd (Pt.bb) 1),vI vU (wd (Pt.bb) 2),vI vU (wd (Pt.bb) 3)]) ∧ Below w.heap.size w w':=by
 obtain ⟨l0,l1,l2,l3⟩:=bb_lits
 rw [l0,l1,l2,l3]
 clear l0 l1 l2 l3
 go_enter Tryz.func115,Tryz.ntmps115
 go_wp2
 exact bodyPost_ret (results_cell_row rfl _ _ w.heap.size 27 #[vI vU 4309448131093880907,vI vU 7285987128567378166,vI vU 12964664127075681980,vI vU 6540974713487397863] (0,0) _ rfl (heap_alloc_last w _) Tryz.underlying27 rfl (by kernel_rfl)) rfl ⟨rfl,(Below.refl _ _).alloc (Nat.le_refl _) _⟩
theorem isz_calls (X : Nat) (hX : X < top) (w : World) :
  Calls Tryz.prog 112 #[nv X] w fun e w' => e = .returned (.bool (decide (X = 0))) ∧ Ext w w':=by
 unfold nv nc
 have kq:=fun W => eql_zero hX W
 obtain ⟨q,hq⟩ : ∃ q,q = decide (X = 0):=⟨_,rfl⟩
 rw [← hq] at kq ⊢
 have hA : (w.alloc (.cells #[vI vU (wd X 0),vI vU (wd X 1),vI vU (wd X 2),vI vU (wd X 3)] 27)).rowIs w.heap.size 27 4 (fun j => .int .u64 (wd X j)):=zai (n:=4) (by simp) rfl (arr4 fun j => .int .u64 (wd X j))
 obtain ⟨c0,c1,c2,c3⟩:=zaf hA
 clear hq hX hA
 go_enter Tryz.func112,Tryz.ntmps112
 go_wp2
 go_ret
 exact ⟨rfl,(Below.refl _ _).alloc (Nat.le_refl _) _⟩
theorem isz_no {X : Nat} (h : X ≠ 0) (hX : X < top) (w : World) : Calls Tryz.prog 112 #[nv X] w fun e w' => e = .returned (.bool false) ∧ Ext w w':=by
 have k:=isz_calls X hX w
 rwa [decide_eq_false h] at k
theorem zjc {X : Nat} (h : X = 0) (w : World) : Calls Tryz.prog 112 #[nv X] w fun e w' => e = .returned (.bool true) ∧ Ext w w':=by
 have k:=isz_calls X (by rw [h]; exact Nat.two_pow_pos 256) w
 rwa [decide_eq_true h] at k
section
variable {P : Program} {o : Oper} {a : Act} {w : World}
end
theorem cmp_in {X : Nat} (h : X < Pt.pp) (w : World) : Calls Tryz.prog 113 #[nv X,nv Pt.pp] w fun e w' => e = .returned (.int .i64 (-1)) ∧ Ext w w' :=
 kcmp X Pt.pp (-1) (by unfold cmpN; rw [if_pos h]) (Nat.lt_trans h zhy) zhy w
theorem cmp_no {X : Nat} (hX : X < top) (w : World) : Calls Tryz.prog 113 #[nv X,nv Pt.pp] w fun e w' => e = .returned (.int .i64 (cmpN X Pt.pp)) ∧ Ext w w' :=
 kcmp X Pt.pp _ rfl hX zhy w
theorem cmp_no_ge {X : Nat} (h : ¬ X < Pt.pp) : decide (0 ≤ cmpN X Pt.pp) = true:=by
 have:=cmp_ge X Pt.pp
 simp only [this,h,not_false_eq_true,decide_true]
theorem pP_is (w : World) : Calls Tryz.prog 109 #[] w fun e w' => e = .returned (nv Pt.pp) ∧ Ext w w':=pP_calls w
theorem bb_is (w : World) : Calls Tryz.prog 115 #[] w fun e w' => e = .returned (nv (Pt.F Pt.bb : Fe).val) ∧ Ext w w':=by
 have h : (Pt.F Pt.bb : Fe).val = Pt.bb:=Nat.mod_eq_of_lt bb_lt
 rw [h]
 exact bb_calls w
theorem zgy (w : World) : Calls Tryz.prog 77 #[] w fun e w' => ∃ b,e = .returned (cv b) ∧ Fp w' b ∧ Ext w w':=by
 have hp : Pt.pp % 2 = 1:=by decide +kernel
 have hp2 : 2 < Pt.pp:=by decide +kernel
 have K1:=veil (fun W => new_good Pt.pp hp hp2 zhy W)
 have K0:=veil pP_calls
 clear hp hp2
 generalize hM : Pt.pp = M at K0 K1
 go_enter Tryz.func77,Tryz.ntmps77
 go_wp2_with fail
 refine (K0.out _).mono ?_
 rintro e w1 ⟨rfl,hb1⟩
 go_wp2_with fail
 refine (K1.out _).mono ?_
 rintro e w2 ⟨⟨b,N,Q,hK,hF,hle,rfl⟩,hb2⟩
 have hx : Ext w w2:=(Ext.alloc w _).trans (Ext.trans hb1 hb2)
 have hf : Fp w2 b:=⟨N,Q,hM ▸ hK,hM ▸ hF⟩
 have b0 : w2.heap[w.heap.size]? = some (.cells #[.nilFunc,.nilFunc,.nilFunc,.nilFunc] 126 (0,0)):=Ext.block (Ext.trans hb1 hb2) (zdj (w:=w) rfl)
 have hne : w.heap.size < b:=by have h1:=hb1.size; simp at h1; omega
 clear hK hF hM K0 K1 hb1 hb2 hle
 go_upto_region 2 with (fail)
 refine' zau (m:=9) (A:=_) (by kernel_rfl) ?h1 ?h2
 case h1 =>
  refine zaa (ptrTo b) rfl (zae (.inl rfl) rfl) ?_
  refine zaa (fv 110 b) rfl (zhm rfl rfl) ?_;simp only [aP,lA,lZ,lS]
  refine zaa (ptrTo b) rfl (zae (.inl rfl) rfl) ?_
  refine zaa (fv 111 b) rfl (zhm rfl rfl) ?_;simp only [aP,lA,lZ,lS]
  refine zaa (ptrTo b) rfl (zae (.inl rfl) rfl) ?_
  refine zaa (fv 89 b) rfl (zhm rfl rfl) ?_;simp only [aP,lA,lZ,lS]
  refine zaa (ptrTo b) rfl (zae (.inl rfl) rfl) ?_
  refine zaa (fv 87 b) rfl (zhm rfl rfl) ?_;simp only [aP,lA,lZ,lS]
  refine zaa (cv b) rfl (zbv (vs:=[(0,fv 110 b),(1,fv 111 b),(2,fv 89 b),(3,fv 87 b)]) rfl rfl (fun W => bldK W _)) ?_;simp only [aP,lA,lZ,lS]
  exact zar
 refine zdd _ rfl rfl rfl rfl rfl rfl b0 (iK _) rfl (cc_one _) ?_
 intro w3 hB hb
 go_wp2
 have hf' : Fp w3 b:=by
  obtain ⟨N,Q,h1,h2⟩:=hf
  exact ⟨N,Q,h1,h2.of_block (hB.block b h2.lt (by intro e; simp at e; omega))⟩
 exact bodyPost_ret (results_cell_row rfl _ _ w.heap.size 126 (cc b) (0,0) _ rfl hb Tryz.underlying126 rfl (by kernel_rfl)) rfl ⟨b,rfl,hf',hx.new hB (Nat.le_refl _)⟩
theorem lift_far (x y : Nat) (w : World) :
  Calls Tryz.prog 144 #[qv x y true] w fun e w' => e = .returned (sv 0 0 0) ∧ Ext w w':=by
 exact auto0 Tryz.func144 [qv x y true] [] (sv 0 0 0) (by kernel_rfl)
theorem lift_near (x y : Nat) (w : World) :
  Calls Tryz.prog 144 #[qv x y false] w fun e w' => e = .returned (sv x y 1) ∧ Ext w w':=by
 exact auto0 Tryz.func144 [qv x y false] [] (sv x y 1) (by kernel_rfl)
theorem base_calls (w : World) :
  Calls Tryz.prog 20 #[] w fun e w' => e = .returned (qv Pt.gx Pt.gy false) ∧ Ext w w':=by
 exact auto0 Tryz.func20 [] [] (qv Pt.gx Pt.gy false) (by kernel_rfl)
theorem plus_far {b : Nat} (x y z X Y : Nat) {w : World} (_hF : Fp w b) :
  Calls Tryz.prog 147 #[cv b,sv x y z,qv X Y true] w fun e w' => e = .returned (sv x y z) ∧ Ext w w':=by
 exact auto0 Tryz.func147 [cv b,sv x y z,qv X Y true] [] (sv x y z) (by kernel_rfl)
theorem plus_lift {b : Nat} (x y X Y : Nat) {w : World} (_hF : Fp w b) :
  Calls Tryz.prog 147 #[cv b,sv x y 0,qv X Y false] w fun e w' => e = .returned (sv X Y 1) ∧ Ext w w':=by
 exact auto0 Tryz.func147 [cv b,sv x y 0,qv X Y false] [
  .call _ _ _ fun W _ => zjc rfl W,
  .call _ _ _ fun W _ => lift_near X Y W] (sv X Y 1) (by kernel_rfl)
def runOf (x z X : Fe) : Fe:=X * (z * z) - x
def riseOf (y z Y : Fe) : Fe:=Y * (z * z * z) - y
def plus3 (x y z X Y : Fe) : Fe × Fe × Fe :=
 let zz : Fe:=z * z
 let u : Fe:=X * zz
 let run : Fe:=u - x
 let zzz : Fe:=zz * z
 let v : Fe:=Y * zzz
 let rise : Fe:=v - y
 let sq : Fe:=run * run
 let cube : Fe:=sq * run
 let cross : Fe:=x * sq
 let rr : Fe:=rise * rise
 let r1 : Fe:=rr - cube
 let c2 : Fe:=cross + cross
 let x3 : Fe:=r1 - c2
 let d : Fe:=cross - x3
 let rd : Fe:=rise * d
 let yc : Fe:=y * cube
 let y3 : Fe:=rd - yc
 let z3 : Fe:=z * run
 (x3,y3,z3)
theorem plus_same {b : Nat} (x y z X Y : Fe) (hz : z.val ≠ 0) (hr : (runOf x z X).val = 0) (hs : (riseOf y z Y).val = 0) {w : World} (hF : Fp w b) :
  Calls Tryz.prog 147 #[cv b,sv x.val y.val z.val,qv X.val Y.val false] w fun e w' => e = .returned (sv (twice3 x y z).1.val (twice3 x y z).2.1.val (twice3 x y z).2.2.val) ∧ Ext w w':=by
 obtain ⟨zz,hzz⟩ : ∃ t : Fe,t = z * z:=⟨_,rfl⟩
 obtain ⟨u,hu⟩ : ∃ t : Fe,t = X * zz:=⟨_,rfl⟩
 obtain ⟨run,hrun⟩ : ∃ t : Fe,t = u - x:=⟨_,rfl⟩
 obtain ⟨zzz,hzzz⟩ : ∃ t : Fe,t = zz * z:=⟨_,rfl⟩
 obtain ⟨v,hv⟩ : ∃ t : Fe,t = Y * zzz:=⟨_,rfl⟩
 obtain ⟨rise,hrise⟩ : ∃ t : Fe,t = v - y:=⟨_,rfl⟩
 have h1 : runOf x z X = run:=by subst hrun hu hzz; rfl
 have h2 : riseOf y z Y = rise:=by subst hrise hv hzzz hzz; rfl
 rw [h1] at hr
 rw [h2] at hs
 clear h1 h2
 have kzz:=veil hzz
 have ku:=veil hu
 have krun:=veil hrun
 have kzzz:=veil hzzz
 have kv:=veil hv
 have krise:=veil hrise
 clear hrise hv hzzz hrun hu hzz
 have kz0:=veil hz
 have kr:=veil hr
 have ks:=veil hs
 clear hz hr hs
 obtain ⟨X3,Y3,Z3,h3⟩ : ∃ X3 Y3 Z3,twice3 x y z = (X3,Y3,Z3):=⟨_,_,_,rfl⟩
 have KT:=veil (fun W (hF : Fp W b) => twice_calls x y z hF)
 rw [h3] at KT ⊢
 clear h3
 show Calls Tryz.prog 147 #[cv b,sv x.val y.val z.val,qv X.val Y.val false] w fun e w' => e = .returned (sv X3.val Y3.val Z3.val) ∧ Ext w w'
 exact auto0 Tryz.func147 [cv b,sv x.val y.val z.val,qv X.val Y.val false] [
  .call _ _ _ fun W _ => isz_no kz0.out (zdk _) W,
  .call _ _ _ fun W hW => zbg kzz.out (hF.ext hW),
  .call _ _ _ fun W hW => zbg ku.out (hF.ext hW),
  .call _ _ _ fun W hW => zdc krun.out (hF.ext hW),
  .call _ _ _ fun W hW => zbg kzzz.out (hF.ext hW),
  .call _ _ _ fun W hW => zbg kv.out (hF.ext hW),
  .call _ _ _ fun W hW => zdc krise.out (hF.ext hW),
  .call _ _ _ fun W _ => zjc kr.out W,
  .call _ _ _ fun W _ => zjc ks.out W,
  .call _ _ _ fun W hW => KT.out W (hF.ext hW)] (sv X3.val Y3.val Z3.val) (by kernel_rfl)
theorem plus_opp {b : Nat} (x y z X Y : Fe) (hz : z.val ≠ 0) (hr : (runOf x z X).val = 0) (hs : (riseOf y z Y).val ≠ 0) {w : World} (hF : Fp w b) :
  Calls Tryz.prog 147 #[cv b,sv x.val y.val z.val,qv X.val Y.val false] w fun e w' => e = .returned (sv 0 0 0) ∧ Ext w w':=by
 obtain ⟨zz,hzz⟩ : ∃ t : Fe,t = z * z:=⟨_,rfl⟩
 obtain ⟨u,hu⟩ : ∃ t : Fe,t = X * zz:=⟨_,rfl⟩
 obtain ⟨run,hrun⟩ : ∃ t : Fe,t = u - x:=⟨_,rfl⟩
 obtain ⟨zzz,hzzz⟩ : ∃ t : Fe,t = zz * z:=⟨_,rfl⟩
 obtain ⟨v,hv⟩ : ∃ t : Fe,t = Y * zzz:=⟨_,rfl⟩
 obtain ⟨rise,hrise⟩ : ∃ t : Fe,t = v - y:=⟨_,rfl⟩
 have h1 : runOf x z X = run:=by subst hrun hu hzz; rfl
 have h2 : riseOf y z Y = rise:=by subst hrise hv hzzz hzz; rfl
 rw [h1] at hr
 rw [h2] at hs
 clear h1 h2
 have kzz:=veil hzz
 have ku:=veil hu
 have krun:=veil hrun
 have kzzz:=veil hzzz
 have kv:=veil hv
 have krise:=veil hrise
 clear hrise hv hzzz hrun hu hzz
 have kz0:=veil hz
 have kr:=veil hr
 have ks:=veil hs
 clear hz hr hs
 exact auto0 Tryz.func147 [cv b,sv x.val y.val z.val,qv X.val Y.val false] [
  .call _ _ _ fun W _ => isz_no kz0.out (zdk _) W,
  .call _ _ _ fun W hW => zbg kzz.out (hF.ext hW),
  .call _ _ _ fun W hW => zbg ku.out (hF.ext hW),
  .call _ _ _ fun W hW => zdc krun.out (hF.ext hW),
  .call _ _ _ fun W hW => zbg kzzz.out (hF.ext hW),
  .call _ _ _ fun W hW => zbg kv.out (hF.ext hW),
  .call _ _ _ fun W hW => zdc krise.out (hF.ext hW),
  .call _ _ _ fun W _ => zjc kr.out W,
  .call _ _ _ fun W _ => isz_no ks.out (zdk _) W] (sv 0 0 0) (by kernel_rfl)
theorem plus_else {b : Nat} (x y z X Y : Fe) (hz : z.val ≠ 0) (hr : (runOf x z X).val ≠ 0) {w : World} (hF : Fp w b) :
  Calls Tryz.prog 147 #[cv b,sv x.val y.val z.val,qv X.val Y.val false] w fun e w' => e = .returned (sv (plus3 x y z X Y).1.val (plus3 x y z X Y).2.1.val (plus3 x y z X Y).2.2.val) ∧ Ext w w':=by
 obtain ⟨zz,hzz⟩ : ∃ t : Fe,t = z * z:=⟨_,rfl⟩
 obtain ⟨u,hu⟩ : ∃ t : Fe,t = X * zz:=⟨_,rfl⟩
 obtain ⟨run,hrun⟩ : ∃ t : Fe,t = u - x:=⟨_,rfl⟩
 obtain ⟨zzz,hzzz⟩ : ∃ t : Fe,t = zz * z:=⟨_,rfl⟩
 obtain ⟨v,hv⟩ : ∃ t : Fe,t = Y * zzz:=⟨_,rfl⟩
 obtain ⟨rise,hrise⟩ : ∃ t : Fe,t = v - y:=⟨_,rfl⟩
 obtain ⟨sq,hsq⟩ : ∃ t : Fe,t = run * run:=⟨_,rfl⟩
 obtain ⟨cube,hcube⟩ : ∃ t : Fe,t = sq * run:=⟨_,rfl⟩
 obtain ⟨cross,hcross⟩ : ∃ t : Fe,t = x * sq:=⟨_,rfl⟩
 obtain ⟨rr,hrr⟩ : ∃ t : Fe,t = rise * rise:=⟨_,rfl⟩
 obtain ⟨r1,hr1⟩ : ∃ t : Fe,t = rr - cube:=⟨_,rfl⟩
 obtain ⟨c2,hc2⟩ : ∃ t : Fe,t = cross + cross:=⟨_,rfl⟩
 obtain ⟨x3,hx3⟩ : ∃ t : Fe,t = r1 - c2:=⟨_,rfl⟩
 obtain ⟨d,hd⟩ : ∃ t : Fe,t = cross - x3:=⟨_,rfl⟩
 obtain ⟨rd,hrd⟩ : ∃ t : Fe,t = rise * d:=⟨_,rfl⟩
 obtain ⟨yc,hyc⟩ : ∃ t : Fe,t = y * cube:=⟨_,rfl⟩
 obtain ⟨y3,hy3⟩ : ∃ t : Fe,t = rd - yc:=⟨_,rfl⟩
 obtain ⟨z3,hz3⟩ : ∃ t : Fe,t = z * run:=⟨_,rfl⟩
 have h1 : runOf x z X = run:=by subst hrun hu hzz; rfl
 rw [h1] at hr
 clear h1
 have hfin : plus3 x y z X Y = (x3,y3,z3):=by
  subst hz3 hy3 hyc hrd hd hx3 hc2 hr1 hrr hcross hcube hsq hrise hv hzzz hrun hu hzz
  rfl
 rw [hfin]
 clear hfin
 have kzz:=veil hzz
 have ku:=veil hu
 have krun:=veil hrun
 have kzzz:=veil hzzz
 have kv:=veil hv
 have krise:=veil hrise
 have ksq:=veil hsq
 have kcube:=veil hcube
 have kcross:=veil hcross
 have krr:=veil hrr
 have kr1:=veil hr1
 have kc2:=veil hc2
 have kx3:=veil hx3
 have kd:=veil hd
 have krd:=veil hrd
 have kyc:=veil hyc
 have ky3:=veil hy3
 have kz3:=veil hz3
 clear hz3 hy3 hyc hrd hd hx3 hc2 hr1 hrr hcross hcube hsq hrise hv hzzz hrun hu hzz
 have kz0:=veil hz
 have kr:=veil hr
 clear hz hr
 show Calls Tryz.prog 147 #[cv b,sv x.val y.val z.val,qv X.val Y.val false] w fun e w' => e = .returned (sv x3.val y3.val z3.val) ∧ Ext w w'
 exact auto0 Tryz.func147 [cv b,sv x.val y.val z.val,qv X.val Y.val false] [
  .call _ _ _ fun W _ => isz_no kz0.out (zdk _) W,
  .call _ _ _ fun W hW => zbg kzz.out (hF.ext hW),
  .call _ _ _ fun W hW => zbg ku.out (hF.ext hW),
  .call _ _ _ fun W hW => zdc krun.out (hF.ext hW),
  .call _ _ _ fun W hW => zbg kzzz.out (hF.ext hW),
  .call _ _ _ fun W hW => zbg kv.out (hF.ext hW),
  .call _ _ _ fun W hW => zdc krise.out (hF.ext hW),
  .call _ _ _ fun W _ => isz_no kr.out (zdk _) W,
  .call _ _ _ fun W hW => zbg ksq.out (hF.ext hW),
  .call _ _ _ fun W hW => zbg kcube.out (hF.ext hW),
  .call _ _ _ fun W hW => zbg kcross.out (hF.ext hW),
  .call _ _ _ fun W hW => zbg krr.out (hF.ext hW),
  .call _ _ _ fun W hW => zdc kr1.out (hF.ext hW),
  .call _ _ _ fun W hW => zcx kc2.out (hF.ext hW),
  .call _ _ _ fun W hW => zdc kx3.out (hF.ext hW),
  .call _ _ _ fun W hW => zdc kd.out (hF.ext hW),
  .call _ _ _ fun W hW => zbg krd.out (hF.ext hW),
  .call _ _ _ fun W hW => zbg kyc.out (hF.ext hW),
  .call _ _ _ fun W hW => zdc ky3.out (hF.ext hW),
  .call _ _ _ fun W hW => zbg kz3.out (hF.ext hW)] (sv x3.val y3.val z3.val) (by kernel_rfl)
theorem flat_far {b : Nat} (x y : Nat) {w : World} (hF : Fp w b) :
  Calls Tryz.prog 148 #[cv b,sv x y 0] w fun e w' => e = .returned (qv 0 0 true) ∧ Ext w w':=by
 exact auto0 Tryz.func148 [cv b,sv x y 0] [
  .call _ _ _ fun W hW => kinv_z (hF.ext hW)] (qv 0 0 true) (by kernel_rfl)
def flat2 (x y z : Fe) : Fe × Fe:=(x * (Pt.E256.inv z * Pt.E256.inv z),y * (Pt.E256.inv z * Pt.E256.inv z * Pt.E256.inv z))
theorem flat_near {b : Nat} (x y z : Fe) (hz : z ≠ 0) {w : World} (hF : Fp w b) :
  Calls Tryz.prog 148 #[cv b,sv x.val y.val z.val] w fun e w' => e = .returned (qv (flat2 x y z).1.val (flat2 x y z).2.val false) ∧ Ext w w':=by
 obtain ⟨iv,hiv⟩ : ∃ t : Fe,t = Pt.E256.inv z:=⟨_,rfl⟩
 obtain ⟨sq,hsq⟩ : ∃ t : Fe,t = iv * iv:=⟨_,rfl⟩
 obtain ⟨X,hX⟩ : ∃ t : Fe,t = x * sq:=⟨_,rfl⟩
 obtain ⟨cb,hcb⟩ : ∃ t : Fe,t = sq * iv:=⟨_,rfl⟩
 obtain ⟨Y,hY⟩ : ∃ t : Fe,t = y * cb:=⟨_,rfl⟩
 have hfin : flat2 x y z = (X,Y):=by
  unfold flat2
  rw [hY,hcb,hX,hsq,hiv]
 rw [hfin]
 clear hfin
 have kiv:=veil hiv
 have ksq:=veil hsq
 have kX:=veil hX
 have kcb:=veil hcb
 have kY:=veil hY
 clear hY hcb hX hsq hiv
 have kz0:=veil hz
 clear hz
 show Calls Tryz.prog 148 #[cv b,sv x.val y.val z.val] w fun e w' => e = .returned (qv X.val Y.val false) ∧ Ext w w'
 exact auto0 Tryz.func148 [cv b,sv x.val y.val z.val] [
  .call _ _ _ fun W hW => kinv_p kz0.out kiv.out (hF.ext hW),
  .call _ _ _ fun W hW => zbg ksq.out (hF.ext hW),
  .call _ _ _ fun W hW => zbg kX.out (hF.ext hW),
  .call _ _ _ fun W hW => zbg kcb.out (hF.ext hW),
  .call _ _ _ fun W hW => zbg kY.out (hF.ext hW)] (qv X.val Y.val false) (by kernel_rfl)
end Go.Proofs.YthlbemnbmbmjhaaGreatDoor
