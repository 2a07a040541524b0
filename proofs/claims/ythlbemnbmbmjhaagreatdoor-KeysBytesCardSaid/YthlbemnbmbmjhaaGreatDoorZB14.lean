/-
  Of FCut FCutn FAdd2 KH LBy FSub2 FMul2 C1 C2 C3 C5 C8 CM CR CD D4 UB.
-/
import Derived.Deep.CutRange
import Derived.Test.YthlbemnbmbmjhaaGreatDoorCards
import Derived.Test.YthlbemnbmbmjhaaGreatDoorTie
import Derived.Carry
import Derived.Test.YthlbemnbmbmjhaaGreatDoorRows
import Derived.WalkKit
import Derived.WalkSpells
import Derived.WalkLawsBesides
import Derived.Deep.LoopGhost
import Derived.Deep.RegionWith
import Derived.Deep.QuietTactic
import Derived.BigQuiet
import Derived.Test.YthlbemnbmbmjhaaGreatDoorZB12
import Derived.Test.YthlbemnbmbmjhaaGreatDoorZB11
import Derived.Test.YthlbemnbmbmjhaaGreatDoorZB6
import Derived.Test.YthlbemnbmbmjhaaGreatDoorZB9
import Derived.Test.YthlbemnbmbmjhaaGreatDoorZB3
import Derived.Test.YthlbemnbmbmjhaaGreatDoorZB4
import Derived.Test.YthlbemnbmbmjhaaGreatDoorZB5
import Derived.Test.YthlbemnbmbmjhaaGreatDoorZB2
import Derived.Test.YthlbemnbmbmjhaaGreatDoorZB7
import Derived.Test.YthlbemnbmbmjhaaGreatDoorZB8
import Derived.Test.YthlbemnbmbmjhaaGreatDoorZB1
import Derived.Test.YthlbemnbmbmjhaaGreatDoorZB13
set_option maxRecDepth 1000000
set_option maxHeartbeats 20000000
namespace Go.Proofs.YthlbemnbmbmjhaaGreatDoor
open Go.RowKit
open Go.Value renaming int → vI
open Go.IntKind renaming u64 → vU
open Go.Act renaming put → aP
open List renaming setIfInBounds_toArray → lA, set_cons_zero → lZ, set_cons_succ → lS
theorem kshr (b X M : Nat) (N : Int) (Q V Z : Nat) (hV : V * top % M = X % M) (hlt : X < M * top) (hX : X < top8) (hZ : V % M = Z) (hK : Fok M N Q) (w : World) (hF : Fb w b M N Q) :
  Calls Tryz.prog 149 #[.pointer (some ⟨b,0,none⟩),.agg #[vI vU (wd X 0),vI vU (wd X 1),vI vU (wd X 2),vI vU (wd X 3),vI vU (wd X 4),vI vU (wd X 5),vI vU (wd X 6),vI vU (wd X 7)]] w fun e w' => e = .returned (.agg #[vI vU (wd Z 0),vI vU (wd Z 1),vI vU (wd Z 2),vI vU (wd Z 3)]) ∧ Below w.heap.size w w':=by
 refine (shrunk_any b X M N Q hX hK w hF).mono ?_
 rintro e w' ⟨⟨Z',h1,h2,h3,rfl⟩,hb⟩
 have e1:=cut_top hK.odd (h2.trans hV.symm)
 rw [Nat.mod_eq_of_lt (h3 hlt),hZ] at e1
 subst e1
 exact ⟨rfl,hb⟩
theorem sq_num {Z X M : Nat} {N : Int} {Q : Nat} (hK : Fok M N Q) (h : Z * top % M = X % M) : X * top % M = Z * Q % M:=by
 rw [hK.q,Nat.mul_mod_mod,zgz,← Nat.mul_assoc,← Nat.mod_mul_mod (Z * top),h,Nat.mod_mul_mod]
theorem mul_lt8 {X Y : Nat} (hX : X < top) (hY : Y < top) : X * Y < top8:=by
 rw [zgz]; exact Nat.mul_lt_mul'' hX hY
theorem mul_ltm {X Q M : Nat} (hX : X < top) (hQ : Q < M) : X * Q < M * top:=by
 rw [Nat.mul_comm M]; exact Nat.mul_lt_mul'' hX hQ
theorem cutw_calls (b X M : Nat) (N : Int) (Q P : Nat) (hX : X < top8) (hK : Fok M N Q) (hP : X % M = P) (w : World) (hF : Fb w b M N Q) :
  Calls Tryz.prog 127 #[.pointer (some ⟨b,0,none⟩),.agg #[vI vU (wd X 0),vI vU (wd X 1),vI vU (wd X 2),vI vU (wd X 3),vI vU (wd X 4),vI vU (wd X 5),vI vU (wd X 6),vI vU (wd X 7)]] w fun e w' => e = .returned (.agg #[vI vU (wd P 0),vI vU (wd P 1),vI vU (wd P 2),vI vU (wd P 3)]) ∧ Below w.heap.size w w':=by
 have hQ:=hK.qm
 have hQt : Q < top:=by have:=hK.mt; omega
 have HX:=veil hX
 have HQ:=veil hQ
 have HP:=veil hP
 clear hX hQ hP
 have hA : ((w.alloc (.cells #[vI vU (wd X 0),vI vU (wd X 1),vI vU (wd X 2),vI vU (wd X 3),vI vU (wd X 4),vI vU (wd X 5),vI vU (wd X 6),vI vU (wd X 7)] 165)).alloc (.cells #[vI vU 0,vI vU 0,vI vU 0,vI vU 0] 27)).rowIs w.heap.size 165 8 (fun j => .int .u64 (wd X j)):=(zac (n:=8) (by simp) rfl (arr8 fun j => .int .u64 (wd X j))).alloc _
 have hR : ((w.alloc (.cells #[vI vU (wd X 0),vI vU (wd X 1),vI vU (wd X 2),vI vU (wd X 3),vI vU (wd X 4),vI vU (wd X 5),vI vU (wd X 6),vI vU (wd X 7)] 165)).alloc (.cells #[vI vU 0,vI vU 0,vI vU 0,vI vU 0] 27)).rowIs (w.heap.size + 1) 27 4 (fun _ => .int .u64 0):=zac (n:=4) (by simp) rfl (arr4 fun _ => .int .u64 0)
 have hbel : Below w.heap.size w ((w.alloc (.cells #[vI vU (wd X 0),vI vU (wd X 1),vI vU (wd X 2),vI vU (wd X 3),vI vU (wd X 4),vI vU (wd X 5),vI vU (wd X 6),vI vU (wd X 7)] 165)).alloc (.cells #[vI vU 0,vI vU 0,vI vU 0,vI vU 0] 27)):=((Below.refl _ _).alloc (by simp) _).alloc (by simp) _
 have hFr : Fb ((w.alloc (.cells #[vI vU (wd X 0),vI vU (wd X 1),vI vU (wd X 2),vI vU (wd X 3),vI vU (wd X 4),vI vU (wd X 5),vI vU (wd X 6),vI vU (wd X 7)] 165)).alloc (.cells #[vI vU 0,vI vU 0,vI vU 0,vI vU 0] 27)) b M N Q:=((hF).alloc _).alloc _
 have hbs:=hF.lt
 clear hF
 go_enter Tryz.func127,Tryz.ntmps127
 go_wp2_with fail
 generalize ((w.alloc (.cells #[vI vU (wd X 0),vI vU (wd X 1),vI vU (wd X 2),vI vU (wd X 3),vI vU (wd X 4),vI vU (wd X 5),vI vU (wd X 6),vI vU (wd X 7)] 165)).alloc (.cells #[vI vU 0,vI vU 0,vI vU 0,vI vU 0] 27)) = w0 at *
 obtain ⟨a0,a1,a2,a3,a4,a5,a6,a7⟩:=row_c8 hA
 obtain ⟨s0,s1,s2,s3⟩:=hFr.sq
 obtain ⟨f0,f1,f2,f3⟩:=zaj hR
 obtain ⟨d0,d1,d2,d3⟩:=zad hR
 go_region_with (first
  | (go_at_call 149; refine (kshr b (Z * Q) M N Q X P (sq_num hK HZ.out) (mul_ltm hZt HQ.out) (mul_lt8 hZt hQt) HP.out hK _ (by exact hFr)).mono ?_; rintro e w3 ⟨rfl,hb3⟩; replace hR:=zaa (by exact hR) hb3 (by exact hR.lt); replace hFr:=Fb.below (by exact hFr) hb3 (by exact hFr.lt); replace hbel:=Below.trans (by first | exact hbel | exact hbel.drew) (hb3.mono (by exact hbel.size)); obtain ⟨f0,f1,f2,f3⟩:=zaj hR; obtain ⟨d0,d1,d2,d3⟩:=zad hR)
  | (go_at_call 149; refine (shrunk_any b X M N Q HX.out hK _ (by exact hFr)).mono ?_; rintro e w1 ⟨⟨Z,hZt,hZ1,_,rfl⟩,hb1⟩; replace hR:=zaa (by exact hR) hb1 (by exact hR.lt); replace hFr:=Fb.below (by exact hFr) hb1 (by exact hFr.lt); replace hbel:=Below.trans (by first | exact hbel | exact hbel.drew) (hb1.mono (by exact hbel.size)); have HZ:=veil hZ1; clear hZ1; obtain ⟨s0,s1,s2,s3⟩:=hFr.sq)
  | (go_at_call 128; refine (kmul Z Q _ rfl hZt hQt _).mono ?_; rintro e w2 ⟨rfl,hb2⟩; replace hR:=zaa (by exact hR) hb2 (by exact hR.lt); replace hFr:=Fb.below (by exact hFr) hb2 (by exact hFr.lt); replace hbel:=Below.trans (by first | exact hbel | exact hbel.drew) (hb2.mono (by exact hbel.size))))
 all_goals
  clear a0 a1 a2 a3 a4 a5 a6 a7 s0 s1 s2 s3 f0 f1 f2 f3 d0 d1 d2 d3
  go_wp2
  refine bodyPost_ret (results_cell_row rfl _ _ (w.heap.size + 1) 27 #[vI vU (wd P 0),vI vU (wd P 1),vI vU (wd P 2),vI vU (wd P 3)] (0,0) _ rfl (blk4 (put4 hR fun j => .int .u64 (wd (P) j))) Tryz.underlying27 rfl (by kernel_rfl)) rfl ⟨rfl,zae hbel (by omega) _ _ _ _⟩
theorem top_lt8 {X : Nat} (h : X < top) : X < top8:=by
 rw [zgz]; exact Nat.lt_of_lt_of_le h (Nat.le_mul_of_pos_right _ zbz)
theorem fcut_less (b X M : Nat) (N : Int) (Q P : Nat) (hX : X < top) (hK : Fok M N Q) (hP : X % M = P) (hl : X < M) (w : World) (hF : Fb w b M N Q) :
  Calls Tryz.prog 139 #[.pointer (some ⟨b,0,none⟩),.agg #[vI vU (wd X 0),vI vU (wd X 1),vI vU (wd X 2),vI vU (wd X 3)]] w fun e w' => e = .returned (.agg #[vI vU (wd P 0),vI vU (wd P 1),vI vU (wd P 2),vI vU (wd P 3)]) ∧ Below w.heap.size w w':=by
 obtain ⟨c,hc⟩ : ∃ c,c = cmpN X M:=⟨_,rfl⟩
 have hcn : c = -1:=by rw [hc]; unfold cmpN; rw [if_pos hl]
 have KC:=veil (fun W => kcmp X M c hc.symm hX hK.mt W)
 rw [Nat.mod_eq_of_lt hl] at hP
 subst hP
 subst hcn
 clear hc hl hX
 have hA : ((w.alloc (.cells #[vI vU (wd X 0),vI vU (wd X 1),vI vU (wd X 2),vI vU (wd X 3)] 27)).alloc (.cells #[vI vU 0,vI vU 0,vI vU 0,vI vU 0] 27)).rowIs w.heap.size 27 4 (fun j => .int .u64 (wd X j)):=(zac (n:=4) (by simp) rfl (arr4 fun j => .int .u64 (wd X j))).alloc _
 have hR : ((w.alloc (.cells #[vI vU (wd X 0),vI vU (wd X 1),vI vU (wd X 2),vI vU (wd X 3)] 27)).alloc (.cells #[vI vU 0,vI vU 0,vI vU 0,vI vU 0] 27)).rowIs (w.heap.size + 1) 27 4 (fun _ => .int .u64 0):=zac (n:=4) (by simp) rfl (arr4 fun _ => .int .u64 0)
 have hbel : Below w.heap.size w ((w.alloc (.cells #[vI vU (wd X 0),vI vU (wd X 1),vI vU (wd X 2),vI vU (wd X 3)] 27)).alloc (.cells #[vI vU 0,vI vU 0,vI vU 0,vI vU 0] 27)):=((Below.refl _ _).alloc (by simp) _).alloc (by simp) _
 have hFr : Fb ((w.alloc (.cells #[vI vU (wd X 0),vI vU (wd X 1),vI vU (wd X 2),vI vU (wd X 3)] 27)).alloc (.cells #[vI vU 0,vI vU 0,vI vU 0,vI vU 0] 27)) b M N Q:=((hF).alloc _).alloc _
 have hbs:=hF.lt
 clear hF
 go_enter Tryz.func139,Tryz.ntmps139
 go_wp2_with fail
 generalize ((w.alloc (.cells #[vI vU (wd X 0),vI vU (wd X 1),vI vU (wd X 2),vI vU (wd X 3)] 27)).alloc (.cells #[vI vU 0,vI vU 0,vI vU 0,vI vU 0] 27)) = w0 at *
 obtain ⟨a0,a1,a2,a3⟩:=zad hA
 obtain ⟨m0,m1,m2,m3⟩:=hFr.mod
 go_region_with (go_at_call 113; refine (KC.out _).mono ?_; rintro e w1 ⟨rfl,hb1⟩; replace hA:=zaa (by exact hA) hb1 (by exact hA.lt); replace hR:=zaa (by exact hR) hb1 (by exact hR.lt); replace hFr:=Fb.below (by exact hFr) hb1 (by exact hFr.lt); replace hbel:=Below.trans (by first | exact hbel | exact hbel.drew) (hb1.mono (by exact hbel.size)))
 all_goals
  clear a0 a1 a2 a3 m0 m1 m2 m3 hb1
  obtain ⟨a0,a1,a2,a3⟩:=zad hA
  obtain ⟨f0,f1,f2,f3⟩:=zaj hR
  obtain ⟨d0,d1,d2,d3⟩:=zad hR
  go_wp2
  refine bodyPost_ret (results_cell_row rfl _ _ (w.heap.size + 1) 27 #[vI vU (wd X 0),vI vU (wd X 1),vI vU (wd X 2),vI vU (wd X 3)] (0,0) _ rfl (blk4 (put4 hR fun j => .int .u64 (wd (X) j))) Tryz.underlying27 rfl (by kernel_rfl)) rfl ⟨rfl,zae hbel (by omega) _ _ _ _⟩
theorem fcut_more (b X M : Nat) (N : Int) (Q P : Nat) (hX : X < top) (hK : Fok M N Q) (hP : X % M = P) (hl : ¬ X < M) (w : World) (hF : Fb w b M N Q) :
  Calls Tryz.prog 139 #[.pointer (some ⟨b,0,none⟩),.agg #[vI vU (wd X 0),vI vU (wd X 1),vI vU (wd X 2),vI vU (wd X 3)]] w fun e w' => e = .returned (.agg #[vI vU (wd P 0),vI vU (wd P 1),vI vU (wd P 2),vI vU (wd P 3)]) ∧ Below w.heap.size w w':=by
 obtain ⟨c,hc⟩ : ∃ c,c = cmpN X M:=⟨_,rfl⟩
 have hcn : 0 ≤ c:=by rw [hc,cmp_ge]; exact hl
 have KC:=veil (fun W => kcmp X M c hc.symm hX hK.mt W)
 have K1:=veil (fun W => wide_calls X hX W)
 have K2:=veil (fun W (h : Fb W b M N Q) => cutw_calls b X M N Q P (top_lt8 hX) hK hP W h)
 clear hc hl hX hP
 have hA : ((w.alloc (.cells #[vI vU (wd X 0),vI vU (wd X 1),vI vU (wd X 2),vI vU (wd X 3)] 27)).alloc (.cells #[vI vU 0,vI vU 0,vI vU 0,vI vU 0] 27)).rowIs w.heap.size 27 4 (fun j => .int .u64 (wd X j)):=(zac (n:=4) (by simp) rfl (arr4 fun j => .int .u64 (wd X j))).alloc _
 have hR : ((w.alloc (.cells #[vI vU (wd X 0),vI vU (wd X 1),vI vU (wd X 2),vI vU (wd X 3)] 27)).alloc (.cells #[vI vU 0,vI vU 0,vI vU 0,vI vU 0] 27)).rowIs (w.heap.size + 1) 27 4 (fun _ => .int .u64 0):=zac (n:=4) (by simp) rfl (arr4 fun _ => .int .u64 0)
 have hbel : Below w.heap.size w ((w.alloc (.cells #[vI vU (wd X 0),vI vU (wd X 1),vI vU (wd X 2),vI vU (wd X 3)] 27)).alloc (.cells #[vI vU 0,vI vU 0,vI vU 0,vI vU 0] 27)):=((Below.refl _ _).alloc (by simp) _).alloc (by simp) _
 have hFr : Fb ((w.alloc (.cells #[vI vU (wd X 0),vI vU (wd X 1),vI vU (wd X 2),vI vU (wd X 3)] 27)).alloc (.cells #[vI vU 0,vI vU 0,vI vU 0,vI vU 0] 27)) b M N Q:=((hF).alloc _).alloc _
 have hbs:=hF.lt
 clear hF
 go_enter Tryz.func139,Tryz.ntmps139
 go_wp2_with fail
 generalize ((w.alloc (.cells #[vI vU (wd X 0),vI vU (wd X 1),vI vU (wd X 2),vI vU (wd X 3)] 27)).alloc (.cells #[vI vU 0,vI vU 0,vI vU 0,vI vU 0] 27)) = w0 at *
 obtain ⟨a0,a1,a2,a3⟩:=zad hA
 obtain ⟨m0,m1,m2,m3⟩:=hFr.mod
 go_region_with (go_at_call 113; refine (KC.out _).mono ?_; rintro e w1 ⟨rfl,hb1⟩; replace hA:=zaa (by exact hA) hb1 (by exact hA.lt); replace hR:=zaa (by exact hR) hb1 (by exact hR.lt); replace hFr:=Fb.below (by exact hFr) hb1 (by exact hFr.lt); replace hbel:=Below.trans (by first | exact hbel | exact hbel.drew) (hb1.mono (by exact hbel.size)))
 all_goals
  clear a0 a1 a2 a3 m0 m1 m2 m3 hb1
  obtain ⟨a0,a1,a2,a3⟩:=zad hA
  go_wp2_with fail
  refine (K1.out _).mono ?_
  rintro e w2 ⟨rfl,hb2⟩
  replace hR:=zaa (by exact hR) hb2 (by exact hR.lt)
  replace hFr:=Fb.below (by exact hFr) hb2 (by exact hFr.lt)
  replace hbel:=Below.trans (by first | exact hbel | exact hbel.drew) (hb2.mono (by exact hbel.size))
  clear a0 a1 a2 a3 hA hb2
  go_wp2_with fail
  refine (K2.out _ hFr).mono ?_
  rintro e w3 ⟨rfl,hb3⟩
  replace hR:=zaa (by exact hR) hb3 (by exact hR.lt)
  replace hFr:=Fb.below (by exact hFr) hb3 (by exact hFr.lt)
  replace hbel:=Below.trans (by first | exact hbel | exact hbel.drew) (hb3.mono (by exact hbel.size))
  clear hb3 hFr
  obtain ⟨f0,f1,f2,f3⟩:=zaj hR
  obtain ⟨d0,d1,d2,d3⟩:=zad hR
  go_wp2
  refine bodyPost_ret (results_cell_row rfl _ _ (w.heap.size + 1) 27 #[vI vU (wd P 0),vI vU (wd P 1),vI vU (wd P 2),vI vU (wd P 3)] (0,0) _ rfl (blk4 (put4 hR fun j => .int .u64 (wd (P) j))) Tryz.underlying27 rfl (by kernel_rfl)) rfl ⟨rfl,zae hbel (by omega) _ _ _ _⟩
theorem fcut_calls (b X M : Nat) (N : Int) (Q P : Nat) (hX : X < top) (hK : Fok M N Q) (hP : X % M = P) (w : World) (hF : Fb w b M N Q) :
  Calls Tryz.prog 139 #[.pointer (some ⟨b,0,none⟩),.agg #[vI vU (wd X 0),vI vU (wd X 1),vI vU (wd X 2),vI vU (wd X 3)]] w fun e w' => e = .returned (.agg #[vI vU (wd P 0),vI vU (wd P 1),vI vU (wd P 2),vI vU (wd P 3)]) ∧ Below w.heap.size w w':=by
 by_cases h : X < M
 ·
  exact fcut_less b X M N Q P hX hK hP h w hF
 ·
  exact fcut_more b X M N Q P hX hK hP h w hF
theorem fadd2_calls (b X Y M : Nat) (N : Int) (Q Z : Nat) (hX : X < top) (hY : Y < top) (hK : Fok M N Q) (hZ : (X % M + Y % M) % M = Z) (w : World) (hF : Fb w b M N Q) :
  Calls Tryz.prog 110 #[.pointer (some ⟨b,0,none⟩),.agg #[vI vU (wd X 0),vI vU (wd X 1),vI vU (wd X 2),vI vU (wd X 3)],.agg #[vI vU (wd Y 0),vI vU (wd Y 1),vI vU (wd Y 2),vI vU (wd Y 3)]] w fun e w' => e = .returned (.agg #[vI vU (wd Z 0),vI vU (wd Z 1),vI vU (wd Z 2),vI vU (wd Z 3)]) ∧ Below w.heap.size w w':=by
 have hM0 : 0 < M:=by have:=hK.m2; omega
 have hX2:=Nat.mod_lt X hM0
 have hY2:=Nat.mod_lt Y hM0
 have K3:=veil (fun W (h : Fb W b M N Q) => fadd_calls b (X % M) (Y % M) M N Q Z hX2 hY2 hK.mt hZ W h)
 have HK:=veil hK
 clear hK hZ hM0 hX2 hY2
 have hA : (((w.alloc (.cells #[vI vU (wd X 0),vI vU (wd X 1),vI vU (wd X 2),vI vU (wd X 3)] 27)).alloc (.cells #[vI vU (wd Y 0),vI vU (wd Y 1),vI vU (wd Y 2),vI vU (wd Y 3)] 27)).alloc (.cells #[vI vU 0,vI vU 0,vI vU 0,vI vU 0] 27)).rowIs w.heap.size 27 4 (fun j => .int .u64 (wd X j)):=((zac (n:=4) (by simp) rfl (arr4 fun j => .int .u64 (wd X j))).alloc _).alloc _
 have hB : (((w.alloc (.cells #[vI vU (wd X 0),vI vU (wd X 1),vI vU (wd X 2),vI vU (wd X 3)] 27)).alloc (.cells #[vI vU (wd Y 0),vI vU (wd Y 1),vI vU (wd Y 2),vI vU (wd Y 3)] 27)).alloc (.cells #[vI vU 0,vI vU 0,vI vU 0,vI vU 0] 27)).rowIs (w.heap.size + 1) 27 4 (fun j => .int .u64 (wd Y j)):=(zac (n:=4) (by simp) rfl (arr4 fun j => .int .u64 (wd Y j))).alloc _
 have hR : (((w.alloc (.cells #[vI vU (wd X 0),vI vU (wd X 1),vI vU (wd X 2),vI vU (wd X 3)] 27)).alloc (.cells #[vI vU (wd Y 0),vI vU (wd Y 1),vI vU (wd Y 2),vI vU (wd Y 3)] 27)).alloc (.cells #[vI vU 0,vI vU 0,vI vU 0,vI vU 0] 27)).rowIs (w.heap.size + 1 + 1) 27 4 (fun _ => .int .u64 0):=zac (n:=4) (by simp) rfl (arr4 fun _ => .int .u64 0)
 have hbel : Below w.heap.size w (((w.alloc (.cells #[vI vU (wd X 0),vI vU (wd X 1),vI vU (wd X 2),vI vU (wd X 3)] 27)).alloc (.cells #[vI vU (wd Y 0),vI vU (wd Y 1),vI vU (wd Y 2),vI vU (wd Y 3)] 27)).alloc (.cells #[vI vU 0,vI vU 0,vI vU 0,vI vU 0] 27)):=(((Below.refl _ _).alloc (by simp) _).alloc (by simp) _).alloc (by simp; omega) _
 have hFr : Fb (((w.alloc (.cells #[vI vU (wd X 0),vI vU (wd X 1),vI vU (wd X 2),vI vU (wd X 3)] 27)).alloc (.cells #[vI vU (wd Y 0),vI vU (wd Y 1),vI vU (wd Y 2),vI vU (wd Y 3)] 27)).alloc (.cells #[vI vU 0,vI vU 0,vI vU 0,vI vU 0] 27)) b M N Q:=(((hF).alloc _).alloc _).alloc _
 have hbs:=hF.lt
 clear hF
 go_enter Tryz.func110,Tryz.ntmps110
 go_wp2_with fail
 generalize (((w.alloc (.cells #[vI vU (wd X 0),vI vU (wd X 1),vI vU (wd X 2),vI vU (wd X 3)] 27)).alloc (.cells #[vI vU (wd Y 0),vI vU (wd Y 1),vI vU (wd Y 2),vI vU (wd Y 3)] 27)).alloc (.cells #[vI vU 0,vI vU 0,vI vU 0,vI vU 0] 27)) = w0 at *
 obtain ⟨a0,a1,a2,a3⟩:=zad hA
 obtain ⟨b0,b1,b2,b3⟩:=zad hB
 obtain ⟨f0,f1,f2,f3⟩:=zaj hR
 obtain ⟨d0,d1,d2,d3⟩:=zad hR
 go_region_with (first
  | (go_at_call 139; refine (fcut_calls b _ M N Q _ (by assumption) HK.out rfl _ (by exact hFr)).mono ?_; rintro e w1 ⟨rfl,hb1⟩; replace hB:=zaa (by exact hB) hb1 (by exact hB.lt); replace hA:=zaa (by exact hA) hb1 (by exact hA.lt); replace hR:=zaa (by exact hR) hb1 (by exact hR.lt); replace hFr:=Fb.below (by exact hFr) hb1 (by exact hFr.lt); replace hbel:=Below.trans (by first | exact hbel | exact hbel.drew) (hb1.mono (by exact hbel.size)); obtain ⟨b0,b1,b2,b3⟩:=zad hB; obtain ⟨a0,a1,a2,a3⟩:=zad hA)
  | (go_at_call 138; refine (K3.out _ (by exact hFr)).mono ?_; rintro e w3 ⟨rfl,hb3⟩; replace hR:=zaa (by exact hR) hb3 (by exact hR.lt); replace hFr:=Fb.below (by exact hFr) hb3 (by exact hFr.lt); replace hbel:=Below.trans (by first | exact hbel | exact hbel.drew) (hb3.mono (by exact hbel.size)); obtain ⟨f0,f1,f2,f3⟩:=zaj hR; obtain ⟨d0,d1,d2,d3⟩:=zad hR))
 all_goals
  clear a0 a1 a2 a3 b0 b1 b2 b3 f0 f1 f2 f3 d0 d1 d2 d3
  go_wp2
  refine bodyPost_ret (results_cell_row rfl _ _ (w.heap.size + 1 + 1) 27 #[vI vU (wd Z 0),vI vU (wd Z 1),vI vU (wd Z 2),vI vU (wd Z 3)] (0,0) _ rfl (blk4 (put4 hR fun j => .int .u64 (wd (Z) j))) Tryz.underlying27 rfl (by kernel_rfl)) rfl ⟨rfl,zae hbel (by omega) _ _ _ _⟩
/-! ### digests -/
/-! ### signatures -/
def lowL : Low where
structure CodeL : Prop where
end Go.Proofs.YthlbemnbmbmjhaaGreatDoor
namespace Go.Proofs.YthlbemnbmbmjhaaGreatDoor
open Go.ChangeShapes Go.WideShapes Go.ChangeAt Go.RowKit
open Go.Value renaming int → vI
open Go.IntKind renaming u64 → vU
open Go.Act renaming put → aP
open List renaming setIfInBounds_toArray → lA, set_cons_zero → lZ, set_cons_succ → lS
theorem KeysBytes_lifted (C : Code10 lowL KT) (os : Os) (started : os.Started) (H : Type) (enc : TypeId × Value → H) :
  ReturnsInHanded {} Tryz.checked os 4 .any (fun w args => (Rows.keysBytesSpec.pre enc Tryz.prog Tryz.f4 [] false w args ∧ laidMetH Tryz.prog Rows.keysBytesRow.laid w) ∧ sizedMet enc Tryz.prog Tryz.f4 (OpenSpec.ofChange Rows.keysBytesSpec) false w args)
   (Rows.keysBytesSpec.post enc Tryz.prog Tryz.f4 false true false false):=by
 refine returnsInHanded_of_change_and (C:=Tryz.checked) (X:=fun w _ => laidMetH Tryz.prog Rows.keysBytesRow.laid w) (fun _ _ _ hh h => h.of_heap hh) ownT started (by kernel_rfl) Tryz.func4
  (ChangeSpec.witness_shaped (enc:=enc) (C:=Tryz.checked) (os:=os) (X:=fun w _ => laidMetH Tryz.prog Rows.keysBytesRow.laid w) false (World.doorLaid Tryz.prog 14 os) #[.slice none 0 0,.slice none 0 0] 8 rfl (World.shaped_of_RefB (by kernel_rfl) (by kernel_rfl)) (by kernel_rfl) (by kernel_rfl) (by kernel_rfl) (door_met os _)) ?_
 intro W base args ds gs before hval0 hW _ _ hL _
 have hval : ∀ (j : Nat) t v,Tryz.f4.params[j]? = some t → args[j]? = some v → Value.okWide Tryz.prog W .any base t v:=hval0
 have hW':=hW
 obtain ⟨p,q,hA0,hV,rfl,_,_⟩:=hW
 have hA : DataW.TrodAll enc Tryz.prog W 0 (fun _ => true) true Tryz.f4.params.toList args.toList ds p:=hA0
 rw [Tryz.params4] at hA hval
 obtain ⟨v0,v1,d0,d1,p0,p1,rfl,rfl,rfl,h0,h1⟩:=trodAll_two hA
 obtain ⟨rfl,rfl⟩:=trodVars_none hV
 have h0k:=h0
 obtain ⟨fuel0,hf0⟩:=h0
 obtain ⟨a0,len0,cap0,rfl⟩:=okWide_slice Tryz.underlying22 (hval 0 22 v0 rfl rfl)
 have h1k:=h1
 obtain ⟨fuel1,hf1⟩:=h1
 obtain ⟨a1,len1,cap1,rfl⟩:=okWide_slice Tryz.underlying33 (hval 1 33 v1 rfl rfl)
 clear hA0 hval0
 simp only [List.append_nil] at hW'
 have hlt0 : ∀ x ∈ p0,x.block < W.heap.size:=fun x hx => by simpa using hW'.lt x (by simp [hx])
 obtain ⟨l0,hF0,hT0,hW0⟩:=ks_of (v:=.slice a0 len0 cap0) (by simpa [Value.cells] using hf0)
 have hlt1 : ∀ x ∈ p1,x.block < W.heap.size:=fun x hx => by simpa using hW'.lt x (by simp [hx])
 obtain ⟨A1,m1,c1,bs1,e1,hm1,hS1,hc1⟩:=bs_of (v:=.slice a1 len1 cap1) (by simpa [Value.cells] using hf1)
 obtain ⟨rfl,rfl,rfl⟩ : a1 = A1 ∧ len1 = m1 ∧ cap1 = c1:=by injection e1 with x y z; exact ⟨x,y,z⟩
 refine (kbytes_walk C _ l0 a1 len1 cap1 bs1 hm1 hc1 W hF0 hT0 hS1).mono fun e W' ⟨he,hb⟩ => ?_
 subst he
 exact ⟨_,rfl,_,_,_,[],_,[],hW',trodAll_mk1 (shut_bool Tryz.underlying4 true),by
  have h2:=trodAll_mk2 (Below.trod laidOutT (by kernel_rfl) (of_decide_eq_true (by kernel_rfl)) h0k hb hlt0) (Below.trod laidOutT (by kernel_rfl) (of_decide_eq_true (by kernel_rfl)) h1k hb hlt1)
  try simp only [List.append_nil] at h2
  exact h2,rfl,hb.frame _,fun h => by cases h⟩
theorem KeysBytes_over (C : Code10 lowL KT) : Rows.keysBytesRow.holds Tryz.pinned (OpenSpec.ofChange Rows.keysBytesSpec) :=
 OpenClaim.holds_of_wide 4 Tryz.f4 rfl rfl rfl rfl rfl rfl rfl ⟨rfl,rfl,rfl,rfl,rfl⟩ rfl rfl rfl rfl rfl (by kernel_rfl) Tryz.func4 (by kernel_rfl)
  (of_decide_eq_true (by kernel_rfl)) (by unfold Func.isWrapper; rw [if_neg (of_decide_eq_false (by kernel_rfl))]; exact ⟨rfl,rfl⟩)
  (fun os started H enc _ => KeysBytes_lifted C os started H enc)
theorem KeysBytes_of (C : Code10 lowL KT) : Rows.KeysBytesCardSaid :=
 Claim7.holds_tied_plain_at .later [] [.data] true _ true
  (KeysBytes_over C) (fun _ h => by cases h) (by kernel_rfl) (fun _ h => by cases h) keysBytes_row_tie rfl ⟨rfl,rfl⟩ (by kernel_rfl) rfl
  (fun f fn hf hfn => by
   obtain rfl : f = 4:=Option.some.inj ((show Tryz.prog.funcNamed "clapper/clapperlaw10.KeysBytes" = some 4 by kernel_rfl).symm.trans hf) |>.symm
   obtain rfl : fn = Tryz.f4:=(Option.some.inj (Tryz.func4.symm.trans hfn)).symm
   exact ⟨by kernel_rfl,fun j t ht => by
    rw [Tryz.params4] at ht
    have hm : t ∈ [22,33]:=by simpa using Array.mem_of_getElem? ht
    have hall : ([22,33].all fun u => !Tryz.prog.wantsStandIn u) = true:=by kernel_rfl
    exact (show Tryz.prog.wantsStandIn t = false by simpa using List.all_eq_true.1 hall t hm)⟩)
  (by kernel_rfl)
end Go.Proofs.YthlbemnbmbmjhaaGreatDoor
namespace Go.Proofs.YthlbemnbmbmjhaaGreatDoor
open Go.RowKit
open Go.Value renaming int → vI
open Go.IntKind renaming u64 → vU
open Go.Act renaming put → aP
open List renaming setIfInBounds_toArray → lA, set_cons_zero → lZ, set_cons_succ → lS
theorem fsub2_calls (b X Y M : Nat) (N : Int) (Q Z : Nat) (hX : X < top) (hY : Y < top) (hK : Fok M N Q) (hZ : (X % M + M - Y % M) % M = Z) (w : World) (hF : Fb w b M N Q) :
  Calls Tryz.prog 111 #[.pointer (some ⟨b,0,none⟩),.agg #[vI vU (wd X 0),vI vU (wd X 1),vI vU (wd X 2),vI vU (wd X 3)],.agg #[vI vU (wd Y 0),vI vU (wd Y 1),vI vU (wd Y 2),vI vU (wd Y 3)]] w fun e w' => e = .returned (.agg #[vI vU (wd Z 0),vI vU (wd Z 1),vI vU (wd Z 2),vI vU (wd Z 3)]) ∧ Below w.heap.size w w':=by
 have hM0 : 0 < M:=by have:=hK.m2; omega
 have hX2:=Nat.mod_lt X hM0
 have hY2:=Nat.mod_lt Y hM0
 have K3:=veil (fun W (h : Fb W b M N Q) => fsub_calls b (X % M) (Y % M) M N Q Z hX2 hY2 hK.mt hZ W h)
 have HK:=veil hK
 clear hK hZ hM0 hX2 hY2
 have hA : (((w.alloc (.cells #[vI vU (wd X 0),vI vU (wd X 1),vI vU (wd X 2),vI vU (wd X 3)] 27)).alloc (.cells #[vI vU (wd Y 0),vI vU (wd Y 1),vI vU (wd Y 2),vI vU (wd Y 3)] 27)).alloc (.cells #[vI vU 0,vI vU 0,vI vU 0,vI vU 0] 27)).rowIs w.heap.size 27 4 (fun j => .int .u64 (wd X j)):=((zac (n:=4) (by simp) rfl (arr4 fun j => .int .u64 (wd X j))).alloc _).alloc _
 have hB : (((w.alloc (.cells #[vI vU (wd X 0),vI vU (wd X 1),vI vU (wd X 2),vI vU (wd X 3)] 27)).alloc (.cells #[vI vU (wd Y 0),vI vU (wd Y 1),vI vU (wd Y 2),vI vU (wd Y 3)] 27)).alloc (.cells #[vI vU 0,vI vU 0,vI vU 0,vI vU 0] 27)).rowIs (w.heap.size + 1) 27 4 (fun j => .int .u64 (wd Y j)):=(zac (n:=4) (by simp) rfl (arr4 fun j => .int .u64 (wd Y j))).alloc _
 have hR : (((w.alloc (.cells #[vI vU (wd X 0),vI vU (wd X 1),vI vU (wd X 2),vI vU (wd X 3)] 27)).alloc (.cells #[vI vU (wd Y 0),vI vU (wd Y 1),vI vU (wd Y 2),vI vU (wd Y 3)] 27)).alloc (.cells #[vI vU 0,vI vU 0,vI vU 0,vI vU 0] 27)).rowIs (w.heap.size + 1 + 1) 27 4 (fun _ => .int .u64 0):=zac (n:=4) (by simp) rfl (arr4 fun _ => .int .u64 0)
 have hbel : Below w.heap.size w (((w.alloc (.cells #[vI vU (wd X 0),vI vU (wd X 1),vI vU (wd X 2),vI vU (wd X 3)] 27)).alloc (.cells #[vI vU (wd Y 0),vI vU (wd Y 1),vI vU (wd Y 2),vI vU (wd Y 3)] 27)).alloc (.cells #[vI vU 0,vI vU 0,vI vU 0,vI vU 0] 27)):=(((Below.refl _ _).alloc (by simp) _).alloc (by simp) _).alloc (by simp; omega) _
 have hFr : Fb (((w.alloc (.cells #[vI vU (wd X 0),vI vU (wd X 1),vI vU (wd X 2),vI vU (wd X 3)] 27)).alloc (.cells #[vI vU (wd Y 0),vI vU (wd Y 1),vI vU (wd Y 2),vI vU (wd Y 3)] 27)).alloc (.cells #[vI vU 0,vI vU 0,vI vU 0,vI vU 0] 27)) b M N Q:=(((hF).alloc _).alloc _).alloc _
 have hbs:=hF.lt
 clear hF
 go_enter Tryz.func111,Tryz.ntmps111
 go_wp2_with fail
 generalize (((w.alloc (.cells #[vI vU (wd X 0),vI vU (wd X 1),vI vU (wd X 2),vI vU (wd X 3)] 27)).alloc (.cells #[vI vU (wd Y 0),vI vU (wd Y 1),vI vU (wd Y 2),vI vU (wd Y 3)] 27)).alloc (.cells #[vI vU 0,vI vU 0,vI vU 0,vI vU 0] 27)) = w0 at *
 obtain ⟨a0,a1,a2,a3⟩:=zad hA
 obtain ⟨b0,b1,b2,b3⟩:=zad hB
 obtain ⟨f0,f1,f2,f3⟩:=zaj hR
 obtain ⟨d0,d1,d2,d3⟩:=zad hR
 go_region_with (first
  | (go_at_call 139; refine (fcut_calls b _ M N Q _ (by assumption) HK.out rfl _ (by exact hFr)).mono ?_; rintro e w1 ⟨rfl,hb1⟩; replace hB:=zaa (by exact hB) hb1 (by exact hB.lt); replace hA:=zaa (by exact hA) hb1 (by exact hA.lt); replace hR:=zaa (by exact hR) hb1 (by exact hR.lt); replace hFr:=Fb.below (by exact hFr) hb1 (by exact hFr.lt); replace hbel:=Below.trans (by first | exact hbel | exact hbel.drew) (hb1.mono (by exact hbel.size)); obtain ⟨b0,b1,b2,b3⟩:=zad hB; obtain ⟨a0,a1,a2,a3⟩:=zad hA)
  | (go_at_call 124; refine (K3.out _ (by exact hFr)).mono ?_; rintro e w3 ⟨rfl,hb3⟩; replace hR:=zaa (by exact hR) hb3 (by exact hR.lt); replace hFr:=Fb.below (by exact hFr) hb3 (by exact hFr.lt); replace hbel:=Below.trans (by first | exact hbel | exact hbel.drew) (hb3.mono (by exact hbel.size)); obtain ⟨f0,f1,f2,f3⟩:=zaj hR; obtain ⟨d0,d1,d2,d3⟩:=zad hR))
 all_goals
  clear a0 a1 a2 a3 b0 b1 b2 b3 f0 f1 f2 f3 d0 d1 d2 d3
  go_wp2
  refine bodyPost_ret (results_cell_row rfl _ _ (w.heap.size + 1 + 1) 27 #[vI vU (wd Z 0),vI vU (wd Z 1),vI vU (wd Z 2),vI vU (wd Z 3)] (0,0) _ rfl (blk4 (put4 hR fun j => .int .u64 (wd (Z) j))) Tryz.underlying27 rfl (by kernel_rfl)) rfl ⟨rfl,zae hbel (by omega) _ _ _ _⟩
theorem fmul2_calls (b X Y M : Nat) (N : Int) (Q Z : Nat) (hX : X < top) (hY : Y < top) (hK : Fok M N Q) (hZ : X * Y % M = Z) (w : World) (hF : Fb w b M N Q) :
  Calls Tryz.prog 89 #[.pointer (some ⟨b,0,none⟩),.agg #[vI vU (wd X 0),vI vU (wd X 1),vI vU (wd X 2),vI vU (wd X 3)],.agg #[vI vU (wd Y 0),vI vU (wd Y 1),vI vU (wd Y 2),vI vU (wd Y 3)]] w fun e w' => e = .returned (.agg #[vI vU (wd Z 0),vI vU (wd Z 1),vI vU (wd Z 2),vI vU (wd Z 3)]) ∧ Below w.heap.size w w':=by
 have K1:=veil (fun W => kmul X Y _ rfl hX hY W)
 have K2:=veil (fun W (h : Fb W b M N Q) => cutw_calls b (X * Y) M N Q Z (mul_lt8 hX hY) hK hZ W h)
 clear hX hY hK hZ
 generalize X * Y = P at *
 have hA : (((w.alloc (.cells #[vI vU (wd X 0),vI vU (wd X 1),vI vU (wd X 2),vI vU (wd X 3)] 27)).alloc (.cells #[vI vU (wd Y 0),vI vU (wd Y 1),vI vU (wd Y 2),vI vU (wd Y 3)] 27)).alloc (.cells #[vI vU 0,vI vU 0,vI vU 0,vI vU 0] 27)).rowIs w.heap.size 27 4 (fun j => .int .u64 (wd X j)):=((zac (n:=4) (by simp) rfl (arr4 fun j => .int .u64 (wd X j))).alloc _).alloc _
 have hB : (((w.alloc (.cells #[vI vU (wd X 0),vI vU (wd X 1),vI vU (wd X 2),vI vU (wd X 3)] 27)).alloc (.cells #[vI vU (wd Y 0),vI vU (wd Y 1),vI vU (wd Y 2),vI vU (wd Y 3)] 27)).alloc (.cells #[vI vU 0,vI vU 0,vI vU 0,vI vU 0] 27)).rowIs (w.heap.size + 1) 27 4 (fun j => .int .u64 (wd Y j)):=(zac (n:=4) (by simp) rfl (arr4 fun j => .int .u64 (wd Y j))).alloc _
 have hR : (((w.alloc (.cells #[vI vU (wd X 0),vI vU (wd X 1),vI vU (wd X 2),vI vU (wd X 3)] 27)).alloc (.cells #[vI vU (wd Y 0),vI vU (wd Y 1),vI vU (wd Y 2),vI vU (wd Y 3)] 27)).alloc (.cells #[vI vU 0,vI vU 0,vI vU 0,vI vU 0] 27)).rowIs (w.heap.size + 1 + 1) 27 4 (fun _ => .int .u64 0):=zac (n:=4) (by simp) rfl (arr4 fun _ => .int .u64 0)
 have hbel : Below w.heap.size w (((w.alloc (.cells #[vI vU (wd X 0),vI vU (wd X 1),vI vU (wd X 2),vI vU (wd X 3)] 27)).alloc (.cells #[vI vU (wd Y 0),vI vU (wd Y 1),vI vU (wd Y 2),vI vU (wd Y 3)] 27)).alloc (.cells #[vI vU 0,vI vU 0,vI vU 0,vI vU 0] 27)):=(((Below.refl _ _).alloc (by simp) _).alloc (by simp) _).alloc (by simp; omega) _
 have hFr : Fb (((w.alloc (.cells #[vI vU (wd X 0),vI vU (wd X 1),vI vU (wd X 2),vI vU (wd X 3)] 27)).alloc (.cells #[vI vU (wd Y 0),vI vU (wd Y 1),vI vU (wd Y 2),vI vU (wd Y 3)] 27)).alloc (.cells #[vI vU 0,vI vU 0,vI vU 0,vI vU 0] 27)) b M N Q:=(((hF).alloc _).alloc _).alloc _
 have hbs:=hF.lt
 clear hF
 go_enter Tryz.func89,Tryz.ntmps89
 obtain ⟨a0,a1,a2,a3⟩:=zad hA
 obtain ⟨b0,b1,b2,b3⟩:=zad hB
 go_wp2_with fail
 refine (K1.out _).mono ?_
 rintro e w1 ⟨rfl,hb1⟩
 replace hR:=zaa (by exact hR) hb1 (by exact hR.lt)
 replace hFr:=Fb.below (by exact hFr) hb1 (by exact hFr.lt)
 replace hbel:=Below.trans (by first | exact hbel | exact hbel.drew) (hb1.mono (by exact hbel.size))
 clear a0 a1 a2 a3 b0 b1 b2 b3 hA hB hb1
 go_wp2_with fail
 refine (K2.out _ hFr).mono ?_
 rintro e w2 ⟨rfl,hb2⟩
 replace hR:=zaa (by exact hR) hb2 (by exact hR.lt)
 replace hFr:=Fb.below (by exact hFr) hb2 (by exact hFr.lt)
 replace hbel:=Below.trans (by first | exact hbel | exact hbel.drew) (hb2.mono (by exact hbel.size))
 clear hb2 hFr
 obtain ⟨f0,f1,f2,f3⟩:=zaj hR
 obtain ⟨d0,d1,d2,d3⟩:=zad hR
 go_wp2
 refine bodyPost_ret (results_cell_row rfl _ _ (w.heap.size + 1 + 1) 27 #[vI vU (wd Z 0),vI vU (wd Z 1),vI vU (wd Z 2),vI vU (wd Z 3)] (0,0) _ rfl (blk4 (put4 hR fun j => .int .u64 (wd (Z) j))) Tryz.underlying27 rfl (by kernel_rfl)) rfl ⟨rfl,zae hbel (by omega) _ _ _ _⟩
def Fp (w : World) (b : Nat) : Prop:=∃ N Q,Fok Pt.pp N Q ∧ Fb w b Pt.pp N Q
theorem Fp.ext {w w' : World} {b : Nat} (h : Fp w b) (k : Ext w w') : Fp w' b:=by
 obtain ⟨N,Q,h1,h2⟩:=h
 exact ⟨N,Q,h1,h2.call k⟩
theorem Fp.lt {w : World} {b : Nat} (h : Fp w b) : b < w.heap.size:=by
 obtain ⟨N,Q,h1,h2⟩:=h
 exact h2.lt
abbrev Fe:=Fin Pt.pp
def fv (k b : Nat) : Value:=.func (.func k) #[ptrTo b] #[]
def cc (b : Nat) : Array Value:=#[fv 110 b,fv 111 b,fv 89 b,fv 87 b]
def cv (b : Nat) : Value:=.agg (cc b)
theorem cc_one (b : Nat) : (cc b).all (·.oneCell') = true:=by simp [cc,fv,Value.oneCell']
theorem iK (b : Nat) : (Tryz.prog.info? 126).map (·.size) = some (cc b).size:=by kernel_rfl
theorem zfg (x : Fe) : x.val < top:=Nat.lt_trans x.isLt zbt
theorem fe_mod (x : Fe) : x.val % Pt.pp = x.val:=Nat.mod_eq_of_lt x.isLt
theorem kadd_p {b : Nat} {x y t : Fe} (ht : t = x + y) {w : World} (hF : Fp w b) : Calls Tryz.prog 110 #[ptrTo b,nv x.val,nv y.val] w fun e w' => e = .returned (nv t.val) ∧ Ext w w':=by
 obtain ⟨N,Q,h1,h2⟩:=hF
 exact fadd2_calls b x.val y.val Pt.pp N Q t.val (zfg x) (zfg y) h1 (by rw [fe_mod,fe_mod,Pt.v_add,ht]) w h2
theorem ksub_p {b : Nat} {x y t : Fe} (ht : t = x - y) {w : World} (hF : Fp w b) : Calls Tryz.prog 111 #[ptrTo b,nv x.val,nv y.val] w fun e w' => e = .returned (nv t.val) ∧ Ext w w':=by
 obtain ⟨N,Q,h1,h2⟩:=hF
 exact fsub2_calls b x.val y.val Pt.pp N Q t.val (zfg x) (zfg y) h1 (by rw [fe_mod,fe_mod,Pt.v_sub,ht]) w h2
theorem kmul_p {b : Nat} {x y t : Fe} (ht : t = x * y) {w : World} (hF : Fp w b) : Calls Tryz.prog 89 #[ptrTo b,nv x.val,nv y.val] w fun e w' => e = .returned (nv t.val) ∧ Ext w w':=by
 obtain ⟨N,Q,h1,h2⟩:=hF
 exact fmul2_calls b x.val y.val Pt.pp N Q t.val (zfg x) (zfg y) h1 (by rw [Pt.v_mul,ht]) w h2
/-! ### operations -/
section
variable {P : Program} {o : Oper} {a : Act} {w : World}
end
theorem zfe (W : World) : (isAgg 87).run Tryz.prog W = .ok false W:=by simp [isAgg,go_sem]
section
variable (g : Nat) (W : World)
theorem fldK0 : (Instr.fieldAt 126 (ptrTo g) 0).run Tryz.prog W = .ok (.pointer (some ⟨g,0,none⟩)) W:=by simp [Instr.fieldAt,go_sem]
theorem fldK1 : (Instr.fieldAt 126 (ptrTo g) 1).run Tryz.prog W = .ok (.pointer (some ⟨g,1,none⟩)) W:=by simp [Instr.fieldAt,go_sem]
theorem fldK2 : (Instr.fieldAt 126 (ptrTo g) 2).run Tryz.prog W = .ok (.pointer (some ⟨g,2,none⟩)) W:=by simp [Instr.fieldAt,go_sem]
theorem bldK (b : Nat) : (Instr.build 126 [(0,fv 110 b),(1,fv 111 b),(2,fv 89 b),(3,fv 87 b)].toArray).run Tryz.prog W = .ok (cv b) W:=by simp [Instr.build,go_sem,fv,cv,cc]
end
theorem he_kAdd (args : Array Value) (W : World) : (callFunc 110 args).run Tryz.prog W = .ok (.enter 110 args) W:=zaf Tryz.func110 rfl rfl args W
theorem he_kSub (args : Array Value) (W : World) : (callFunc 111 args).run Tryz.prog W = .ok (.enter 111 args) W:=zaf Tryz.func111 rfl rfl args W
theorem he_kMul (args : Array Value) (W : World) : (callFunc 89 args).run Tryz.prog W = .ok (.enter 89 args) W:=zaf Tryz.func89 rfl rfl args W
theorem dbl_calls {b : Nat} {x t : Fe} (ht : t = x + x) {w : World} (hF : Fp w b) :
  Calls Tryz.prog 141 #[cv b,nv x.val] w fun e w' => e = .returned (nv t.val) ∧ Ext w w':=by
 have kt:=veil ht
 clear ht
 exact auto0 Tryz.func141 [cv b,nv x.val] [
  .call _ _ _ fun W hW => kadd_p kt.out (hF.ext hW)] (nv t.val) (by kernel_rfl)
theorem trp_calls {b : Nat} {x t : Fe} (ht : t = x + x + x) {w : World} (hF : Fp w b) :
  Calls Tryz.prog 114 #[cv b,nv x.val] w fun e w' => e = .returned (nv t.val) ∧ Ext w w':=by
 obtain ⟨y,hy⟩ : ∃ t : Fe,t = x + x:=⟨_,rfl⟩
 rw [← hy] at ht
 have ky:=veil hy
 clear hy
 have kt:=veil ht
 clear ht
 exact auto0 Tryz.func114 [cv b,nv x.val] [
  .call _ _ _ fun W hW => dbl_calls ky.out (hF.ext hW),
  .call _ _ _ fun W hW => kadd_p kt.out (hF.ext hW)] (nv t.val) (by kernel_rfl)
theorem pP_calls (w : World) : Calls Tryz.prog 109 #[] w fun e w' => e = .returned (.agg #[vI vU (wd (Pt.pp) 0),vI vU (wd (Pt.pp) 1),vI vU (wd (Pt.pp) 2),vI vU (wd (Pt.pp) 3)]) ∧ Below w.heap.size w w':=by
 obtain ⟨l0,l1,l2,l3⟩:=pp_lits
 rw [l0,l1,l2,l3]
 clear l0 l1 l2 l3
 go_enter Tryz.func109,Tryz.ntmps109
 go_wp2
 exact bodyPost_ret (results_cell_row rfl _ _ w.heap.size 27 #[vI vU 18446744073709551615,vI vU 4294967295,vI vU 0,vI vU 18446744069414584321] (0,0) _ rfl (heap_alloc_last w _) Tryz.underlying27 rfl (by kernel_rfl)) rfl ⟨rfl,(Below.refl _ _).alloc (Nat.le_refl _) _⟩
theorem bb_calls (w : World) : Calls Tryz.prog 115 #[] w fun e w' => e = .returned (.agg #[vI vU (wd (Pt.bb) 0),vI vU (wd (Pt.bb) 1),vI vU (wd (Pt.bb) 2),vI vU (wd (Pt.bb) 3)]) ∧ Below w.heap.size w w':=by
 obtain ⟨l0,l1,l2,l3⟩:=bb_lits
 rw [l0,l1,l2,l3]
 clear l0 l1 l2 l3
 go_enter Tryz.func115,Tryz.ntmps115
 go_wp2
 exact bodyPost_ret (results_cell_row rfl _ _ w.heap.size 27 #[vI vU 4309448131093880907,vI vU 7285987128567378166,vI vU 12964664127075681980,vI vU 6540974713487397863] (0,0) _ rfl (heap_alloc_last w _) Tryz.underlying27 rfl (by kernel_rfl)) rfl ⟨rfl,(Below.refl _ _).alloc (Nat.le_refl _) _⟩
theorem isz_calls (X : Nat) (hX : X < top) (w : World) :
  Calls Tryz.prog 112 #[nv X] w fun e w' => e = .returned (.bool (decide (X = 0))) ∧ Ext w w':=by
 unfold nv nc
 have kq:=fun W => eql_zero hX W
 obtain ⟨q,hq⟩ : ∃ q,q = decide (X = 0):=⟨_,rfl⟩
 rw [← hq] at kq ⊢
 have hA : (w.alloc (.cells #[vI vU (wd X 0),vI vU (wd X 1),vI vU (wd X 2),vI vU (wd X 3)] 27)).rowIs w.heap.size 27 4 (fun j => .int .u64 (wd X j)):=zac (n:=4) (by simp) rfl (arr4 fun j => .int .u64 (wd X j))
 obtain ⟨c0,c1,c2,c3⟩:=zad hA
 clear hq hX hA
 go_enter Tryz.func112,Tryz.ntmps112
 go_wp2
 go_ret
 exact ⟨rfl,(Below.refl _ _).alloc (Nat.le_refl _) _⟩
theorem isz_no {X : Nat} (h : X ≠ 0) (hX : X < top) (w : World) : Calls Tryz.prog 112 #[nv X] w fun e w' => e = .returned (.bool false) ∧ Ext w w':=by
 have k:=isz_calls X hX w
 rwa [decide_eq_false h] at k
theorem isz_yes {X : Nat} (h : X = 0) (w : World) : Calls Tryz.prog 112 #[nv X] w fun e w' => e = .returned (.bool true) ∧ Ext w w':=by
 have k:=isz_calls X (by rw [h]; exact Nat.two_pow_pos 256) w
 rwa [decide_eq_true h] at k
section
variable {P : Program} {o : Oper} {a : Act} {w : World}
end
theorem cmp_in {X : Nat} (h : X < Pt.pp) (w : World) : Calls Tryz.prog 113 #[nv X,nv Pt.pp] w fun e w' => e = .returned (.int .i64 (-1)) ∧ Ext w w' :=
 kcmp X Pt.pp (-1) (by unfold cmpN; rw [if_pos h]) (Nat.lt_trans h zbt) zbt w
theorem cmp_no {X : Nat} (hX : X < top) (w : World) : Calls Tryz.prog 113 #[nv X,nv Pt.pp] w fun e w' => e = .returned (.int .i64 (cmpN X Pt.pp)) ∧ Ext w w' :=
 kcmp X Pt.pp _ rfl hX zbt w
theorem cmp_no_ge {X : Nat} (h : ¬ X < Pt.pp) : decide (0 ≤ cmpN X Pt.pp) = true:=by
 have:=cmp_ge X Pt.pp
 simp only [this,h,not_false_eq_true,decide_true]
theorem pP_is (w : World) : Calls Tryz.prog 109 #[] w fun e w' => e = .returned (nv Pt.pp) ∧ Ext w w':=pP_calls w
theorem bb_is (w : World) : Calls Tryz.prog 115 #[] w fun e w' => e = .returned (nv (Pt.F Pt.bb : Fe).val) ∧ Ext w w':=by
 have h : (Pt.F Pt.bb : Fe).val = Pt.bb:=Nat.mod_eq_of_lt bb_lt
 rw [h]
 exact bb_calls w
theorem curve_calls (w : World) : Calls Tryz.prog 77 #[] w fun e w' => ∃ b,e = .returned (cv b) ∧ Fp w' b ∧ Ext w w':=by
 have hp : Pt.pp % 2 = 1:=by decide +kernel
 have hp2 : 2 < Pt.pp:=by decide +kernel
 have K1:=veil (fun W => new_good Pt.pp hp hp2 zbt W)
 have K0:=veil pP_calls
 clear hp hp2
 generalize hM : Pt.pp = M at K0 K1
 go_enter Tryz.func77,Tryz.ntmps77
 go_wp2_with fail
 refine (K0.out _).mono ?_
 rintro e w1 ⟨rfl,hb1⟩
 go_wp2_with fail
 refine (K1.out _).mono ?_
 rintro e w2 ⟨⟨b,N,Q,hK,hF,hle,rfl⟩,hb2⟩
 have hx : Ext w w2:=(Ext.alloc w _).trans (Ext.trans hb1 hb2)
 have hf : Fp w2 b:=⟨N,Q,hM ▸ hK,hM ▸ hF⟩
 have b0 : w2.heap[w.heap.size]? = some (.cells #[.nilFunc,.nilFunc,.nilFunc,.nilFunc] 126 (0,0)):=Ext.block (Ext.trans hb1 hb2) (heap_is (w:=w) rfl)
 have hne : w.heap.size < b:=by have h1:=hb1.size; simp at h1; omega
 clear hK hF hM K0 K1 hb1 hb2 hle
 go_upto_region 2 with (fail)
 refine' zbf (m:=9) (A:=_) (by kernel_rfl) ?h1 ?h2
 case h1 =>
  refine zab (ptrTo b) rfl (zap (.inl rfl) rfl) ?_
  refine zab (fv 110 b) rfl (zfv rfl rfl) ?_;simp only [aP,lA,lZ,lS]
  refine zab (ptrTo b) rfl (zap (.inl rfl) rfl) ?_
  refine zab (fv 111 b) rfl (zfv rfl rfl) ?_;simp only [aP,lA,lZ,lS]
  refine zab (ptrTo b) rfl (zap (.inl rfl) rfl) ?_
  refine zab (fv 89 b) rfl (zfv rfl rfl) ?_;simp only [aP,lA,lZ,lS]
  refine zab (ptrTo b) rfl (zap (.inl rfl) rfl) ?_
  refine zab (fv 87 b) rfl (zfv rfl rfl) ?_;simp only [aP,lA,lZ,lS]
  refine zab (cv b) rfl (zej (vs:=[(0,fv 110 b),(1,fv 111 b),(2,fv 89 b),(3,fv 87 b)]) rfl rfl (fun W => bldK W _)) ?_;simp only [aP,lA,lZ,lS]
  exact zbb
 refine prest_store _ rfl rfl rfl rfl rfl rfl b0 (iK _) rfl (cc_one _) ?_
 intro w3 hB hb
 go_wp2
 have hf' : Fp w3 b:=by
  obtain ⟨N,Q,h1,h2⟩:=hf
  exact ⟨N,Q,h1,h2.of_block (hB.block b h2.lt (by intro e; simp at e; omega))⟩
 exact bodyPost_ret (results_cell_row rfl _ _ w.heap.size 126 (cc b) (0,0) _ rfl hb Tryz.underlying126 rfl (by kernel_rfl)) rfl ⟨b,rfl,hf',hx.new hB (Nat.le_refl _)⟩
theorem base_calls (w : World) :
  Calls Tryz.prog 20 #[] w fun e w' => e = .returned (qv Pt.gx Pt.gy false) ∧ Ext w w':=by
 exact auto0 Tryz.func20 [] [] (qv Pt.gx Pt.gy false) (by kernel_rfl)
theorem on_far0 {b : Nat} (Y : Nat) (hY : Y < top) {w : World} (hF : Fp w b) :
  Calls Tryz.prog 78 #[cv b,qv 0 Y true] w fun e w' => e = .returned (.bool (decide (Y = 0))) ∧ Ext w w':=by
 have kY:=veil hY
 clear hY
 obtain ⟨q,hq⟩ : ∃ q,q = decide (Y = 0):=⟨_,rfl⟩
 rw [← hq]
 have kq:=veil hq
 clear hq
 unfold cv qv cc fv qc
 go_enter Tryz.func78,Tryz.ntmps78
 go_upto_region 1 with (fail)
 refine zgw fun w1 hx b0 b1 => ?_
 have b0 : w1.heap[w.heap.size]? = some (.cells (cc b) 126 (0,0)):=b0
 have b1 : w1.heap[w.heap.size + 1]? = some (.cells (qc 0 Y true) 29 (0,0)):=b1
 have hf:=hF.ext hx
 clear hF
 refine' zbf (m:=2) (A:=_) (by kernel_rfl) ?h1 ?h2
 case h1 =>
  refine zab (.pointer (some ⟨w.heap.size + 1,8,none⟩)) rfl (zak rfl rfl (fldT2 _ ·)) ?_
  refine zab (.bool true) rfl (zax rfl rfl b1 rfl (zda ·)) ?_;simp only [aP,lA,lZ,lS]
  exact zbb
 refine zbe rfl ?_
 intro w2 hE
 replace b1:=hE.block b1
 replace hf:=hf.ext hE
 replace hx:=hx.trans hE
 clear hE
 go_upto_region 2 with (fail)
 refine' zdx (m:=9) (A:=_) ?h2a ?h2b
 case h2a =>
  refine zab (ptrTo (w.heap.size + 1)) rfl (zak rfl rfl (fldT0 _ ·)) ?_
  refine zab (nv 0) rfl (zam rfl rfl b1 rfl uN rfl (iN _)) ?_;simp only [aP,lA,lZ,lS]
  refine zab (.bool true) rfl (zat (args:=[nv 0]) rfl rfl (fun W => zaf Tryz.func112 rfl rfl _ W) (fun W hW => isz_yes rfl W)) ?_
  refine zab (.bool true) rfl (zap (.inl rfl) rfl) ?_;simp only [aP,lA,lZ,lS]
  refine zbg (.pointer (some ⟨w.heap.size + 1,4,none⟩)) rfl (zak rfl rfl (fldT1 _ ·)) ?_
  refine zbg (nv Y) rfl (zam rfl rfl b1 rfl uN rfl (iN _)) ?_;simp only [aP,lA,lZ,lS]
  refine zbg (.bool q) rfl (zat (args:=[nv Y]) rfl rfl (fun W => zaf Tryz.func112 rfl rfl _ W) (fun W hW => by rw [kq.out]; exact isz_calls Y kY.out W)) ?_
  refine zab (.bool q) rfl (zci rfl rfl rfl) ?_;simp only [aP,lA,lZ,lS]
  refine zab (.bool q) rfl (zap (.inr rfl) rfl) ?_;simp only [aP,lA,lZ,lS]
  exact zbb
 refine zbe rfl ?_
 intro w3 hE
 replace hf:=hf.ext hE
 replace hx:=hx.trans hE
 clear hE
 go_wp2
 go_ret
 exact ⟨rfl,hx⟩
theorem on_far1 {b : Nat} (X Y : Nat) (hX : X < top) (h0 : X ≠ 0) {w : World} (hF : Fp w b) :
  Calls Tryz.prog 78 #[cv b,qv X Y true] w fun e w' => e = .returned (.bool false) ∧ Ext w w':=by
 have kX:=veil hX
 have k0:=veil h0
 clear hX h0
 unfold cv qv cc fv qc
 go_enter Tryz.func78,Tryz.ntmps78
 go_upto_region 1 with (fail)
 refine zgw fun w1 hx b0 b1 => ?_
 have b0 : w1.heap[w.heap.size]? = some (.cells (cc b) 126 (0,0)):=b0
 have b1 : w1.heap[w.heap.size + 1]? = some (.cells (qc X Y true) 29 (0,0)):=b1
 have hf:=hF.ext hx
 clear hF
 refine' zbf (m:=2) (A:=_) (by kernel_rfl) ?h1 ?h2
 case h1 =>
  refine zab (.pointer (some ⟨w.heap.size + 1,8,none⟩)) rfl (zak rfl rfl (fldT2 _ ·)) ?_
  refine zab (.bool true) rfl (zax rfl rfl b1 rfl (zda ·)) ?_;simp only [aP,lA,lZ,lS]
  exact zbb
 refine zbe rfl ?_
 intro w2 hE
 replace b1:=hE.block b1
 replace hf:=hf.ext hE
 replace hx:=hx.trans hE
 clear hE
 go_upto_region 2 with (fail)
 refine' zdx (m:=9) (A:=_) ?h2a ?h2b
 case h2a =>
  refine zab (ptrTo (w.heap.size + 1)) rfl (zak rfl rfl (fldT0 _ ·)) ?_
  refine zab (nv X) rfl (zam rfl rfl b1 rfl uN rfl (iN _)) ?_;simp only [aP,lA,lZ,lS]
  refine zab (.bool false) rfl (zat (args:=[nv X]) rfl rfl (fun W => zaf Tryz.func112 rfl rfl _ W) (fun W hW => isz_no k0.out kX.out W)) ?_
  refine zab (.bool false) rfl (zap (.inl rfl) rfl) ?_;simp only [aP,lA,lZ,lS]
  refine zcm rfl ?_
  refine zcm rfl ?_;simp only [aP,lA,lZ,lS]
  refine zcm rfl ?_
  refine zab (.bool false) rfl (zci rfl rfl rfl) ?_;simp only [aP,lA,lZ,lS]
  refine zab (.bool false) rfl (zap (.inr rfl) rfl) ?_;simp only [aP,lA,lZ,lS]
  exact zbb
 refine zbe rfl ?_
 intro w3 hE
 replace hf:=hf.ext hE
 replace hx:=hx.trans hE
 clear hE
 go_wp2
 go_ret
 exact ⟨rfl,hx⟩
theorem on_out {b : Nat} (X Y : Nat) (hX : X < top) (h0 : ¬ X < Pt.pp) {w : World} (hF : Fp w b) :
  Calls Tryz.prog 78 #[cv b,qv X Y false] w fun e w' => e = .returned (.bool false) ∧ Ext w w':=by
 have kX:=veil hX
 have k0:=veil h0
 clear hX h0
 unfold cv qv cc fv qc
 go_enter Tryz.func78,Tryz.ntmps78
 go_upto_region 1 with (fail)
 refine zgw fun w1 hx b0 b1 => ?_
 have b0 : w1.heap[w.heap.size]? = some (.cells (cc b) 126 (0,0)):=b0
 have b1 : w1.heap[w.heap.size + 1]? = some (.cells (qc X Y false) 29 (0,0)):=b1
 have hf:=hF.ext hx
 clear hF
 refine' zbf (m:=2) (A:=_) (by kernel_rfl) ?h1 ?h2
 case h1 =>
  refine zab (.pointer (some ⟨w.heap.size + 1,8,none⟩)) rfl (zak rfl rfl (fldT2 _ ·)) ?_
  refine zab (.bool false) rfl (zax rfl rfl b1 rfl (zda ·)) ?_;simp only [aP,lA,lZ,lS]
  exact zbb
 refine zbe rfl ?_
 intro w2 hE
 replace b1:=hE.block b1
 replace hf:=hf.ext hE
 replace hx:=hx.trans hE
 clear hE
 go_upto_region 3 with (fail)
 refine' wp_madeG (m:=12) (A:=_) 12 (by kernel_rfl) (by kernel_rfl) ?h2a ?h2b
 case h2a =>
  refine zab (ptrTo (w.heap.size + 1)) rfl (zak rfl rfl (fldT0 _ ·)) ?_
  refine zab (nv X) rfl (zam rfl rfl b1 rfl uN rfl (iN _)) ?_;simp only [aP,lA,lZ,lS]
  refine zab (nv Pt.pp) rfl (zat (args:=[]) rfl rfl (fun W => zaf Tryz.func109 rfl rfl _ W) (fun W hW => pP_is W)) ?_
  refine zab (.int .i64 (cmpN X Pt.pp)) rfl (zat (args:=[nv X,nv Pt.pp]) rfl rfl (fun W => zaf Tryz.func113 rfl rfl _ W) (fun W hW => cmp_no kX.out W)) ?_;simp only [aP,lA,lZ,lS]
  refine zab (.bool true) rfl (zfb rfl rfl (cmp_no_ge k0.out)) ?_
  refine zab (.bool true) rfl (zap (.inl rfl) rfl) ?_;simp only [aP,lA,lZ,lS]
  refine zcm rfl ?_
  refine zcm rfl ?_;simp only [aP,lA,lZ,lS]
  refine zcm rfl ?_
  refine zcm rfl ?_;simp only [aP,lA,lZ,lS]
  refine zcm rfl ?_
  refine zab (.bool true) rfl (zci rfl rfl rfl) ?_;simp only [aP,lA,lZ,lS]
  exact zbb
 refine zfs rfl (by kernel_rfl) ?_
 intro w3 hE
 refine NoPanic.normal ?_
 replace hf:=hf.ext hE
 replace hx:=hx.trans hE
 clear hE
 go_wp2
 go_ret
 exact ⟨rfl,hx⟩
theorem on_high {b : Nat} (X Y : Nat) (hX : X < Pt.pp) (hY : Y < top) (h0 : ¬ Y < Pt.pp) {w : World} (hF : Fp w b) :
  Calls Tryz.prog 78 #[cv b,qv X Y false] w fun e w' => e = .returned (.bool false) ∧ Ext w w':=by
 have kX:=veil hX
 have kY:=veil hY
 have k0:=veil h0
 clear hX hY h0
 unfold cv qv cc fv qc
 go_enter Tryz.func78,Tryz.ntmps78
 go_upto_region 1 with (fail)
 refine zgw fun w1 hx b0 b1 => ?_
 have b0 : w1.heap[w.heap.size]? = some (.cells (cc b) 126 (0,0)):=b0
 have b1 : w1.heap[w.heap.size + 1]? = some (.cells (qc X Y false) 29 (0,0)):=b1
 have hf:=hF.ext hx
 clear hF
 refine' zbf (m:=2) (A:=_) (by kernel_rfl) ?h1 ?h2
 case h1 =>
  refine zab (.pointer (some ⟨w.heap.size + 1,8,none⟩)) rfl (zak rfl rfl (fldT2 _ ·)) ?_
  refine zab (.bool false) rfl (zax rfl rfl b1 rfl (zda ·)) ?_;simp only [aP,lA,lZ,lS]
  exact zbb
 refine zbe rfl ?_
 intro w2 hE
 replace b1:=hE.block b1
 replace hf:=hf.ext hE
 replace hx:=hx.trans hE
 clear hE
 go_upto_region 3 with (fail)
 refine' wp_madeG (m:=12) (A:=_) 12 (by kernel_rfl) (by kernel_rfl) ?h2a ?h2b
 case h2a =>
  refine zab (ptrTo (w.heap.size + 1)) rfl (zak rfl rfl (fldT0 _ ·)) ?_
  refine zab (nv X) rfl (zam rfl rfl b1 rfl uN rfl (iN _)) ?_;simp only [aP,lA,lZ,lS]
  refine zab (nv Pt.pp) rfl (zat (args:=[]) rfl rfl (fun W => zaf Tryz.func109 rfl rfl _ W) (fun W hW => pP_is W)) ?_
  refine zab (.int .i64 (-1)) rfl (zat (args:=[nv X,nv Pt.pp]) rfl rfl (fun W => zaf Tryz.func113 rfl rfl _ W) (fun W hW => cmp_in kX.out W)) ?_;simp only [aP,lA,lZ,lS]
  refine zab (.bool false) rfl (zfb rfl rfl (by decide)) ?_
  refine zab (.bool false) rfl (zap (.inl rfl) rfl) ?_;simp only [aP,lA,lZ,lS]
  refine zbg (.pointer (some ⟨w.heap.size + 1,4,none⟩)) rfl (zak rfl rfl (fldT1 _ ·)) ?_
  refine zbg (nv Y) rfl (zam rfl rfl b1 rfl uN rfl (iN _)) ?_;simp only [aP,lA,lZ,lS]
  refine zbg (nv Pt.pp) rfl (zat (args:=[]) rfl rfl (fun W => zaf Tryz.func109 rfl rfl _ W) (fun W hW => pP_is W)) ?_
  refine zbg (.int .i64 (cmpN Y Pt.pp)) rfl (zat (args:=[nv Y,nv Pt.pp]) rfl rfl (fun W => zaf Tryz.func113 rfl rfl _ W) (fun W hW => cmp_no kY.out W)) ?_;simp only [aP,lA,lZ,lS]
  refine zbg (.bool true) rfl (zfb rfl rfl (cmp_no_ge k0.out)) ?_
  refine zab (.bool true) rfl (zci rfl rfl rfl) ?_;simp only [aP,lA,lZ,lS]
  exact zbb
 refine zfs rfl (by kernel_rfl) ?_
 intro w3 hE
 refine NoPanic.normal ?_
 replace hf:=hf.ext hE
 replace hx:=hx.trans hE
 clear hE
 go_wp2
 go_ret
 exact ⟨rfl,hx⟩
theorem on_near {b : Nat} (x y : Fe) {w : World} (hF : Fp w b) :
  Calls Tryz.prog 78 #[cv b,qv x.val y.val false] w fun e w' => e = .returned (.bool (decide ((y * y).val = (x * x * x - (x + x + x) + Pt.F Pt.bb).val))) ∧ Ext w w':=by
 obtain ⟨sq,hsq⟩ : ∃ t : Fe,t = x * x:=⟨_,rfl⟩
 obtain ⟨cube,hcube⟩ : ∃ t : Fe,t = sq * x:=⟨_,rfl⟩
 obtain ⟨lhs,hlhs⟩ : ∃ t : Fe,t = y * y:=⟨_,rfl⟩
 obtain ⟨tr,htr⟩ : ∃ t : Fe,t = x + x + x:=⟨_,rfl⟩
 obtain ⟨d,hd⟩ : ∃ t : Fe,t = cube - tr:=⟨_,rfl⟩
 obtain ⟨r,hr⟩ : ∃ t : Fe,t = d + Pt.F Pt.bb:=⟨_,rfl⟩
 have hfin : x * x * x - (x + x + x) + Pt.F Pt.bb = r:=by
  subst hr hd htr hlhs hcube hsq
  rfl
 rw [hfin,← hlhs]
 clear hfin
 have ksq:=veil hsq
 have kcube:=veil hcube
 have klhs:=veil hlhs
 have ktr:=veil htr
 have kd:=veil hd
 have kr:=veil hr
 clear hr hd htr hlhs hcube hsq
 have kx:=veil x.isLt
 have ky:=veil y.isLt
 unfold cv qv cc fv qc
 go_enter Tryz.func78,Tryz.ntmps78
 go_upto_region 1 with (fail)
 refine zgw fun w1 hx b0 b1 => ?_
 have b0 : w1.heap[w.heap.size]? = some (.cells (cc b) 126 (0,0)):=b0
 have b1 : w1.heap[w.heap.size + 1]? = some (.cells (qc x.val y.val false) 29 (0,0)):=b1
 have hf:=hF.ext hx
 clear hF
 refine' zbf (m:=2) (A:=_) (by kernel_rfl) ?h1 ?h2
 case h1 =>
  refine zab (.pointer (some ⟨w.heap.size + 1,8,none⟩)) rfl (zak rfl rfl (fldT2 _ ·)) ?_
  refine zab (.bool false) rfl (zax rfl rfl b1 rfl (zda ·)) ?_;simp only [aP,lA,lZ,lS]
  exact zbb
 refine zbe rfl ?_
 intro w2 hE
 replace b0:=hE.block b0
 replace b1:=hE.block b1
 replace hf:=hf.ext hE
 replace hx:=hx.trans hE
 clear hE
 go_upto_region 3 with (fail)
 refine' wp_madeG (m:=12) (A:=_) 12 (by kernel_rfl) (by kernel_rfl) ?h2a ?h2b
 case h2a =>
  refine zab (ptrTo (w.heap.size + 1)) rfl (zak rfl rfl (fldT0 _ ·)) ?_
  refine zab (nv x.val) rfl (zam rfl rfl b1 rfl uN rfl (iN _)) ?_;simp only [aP,lA,lZ,lS]
  refine zab (nv Pt.pp) rfl (zat (args:=[]) rfl rfl (fun W => zaf Tryz.func109 rfl rfl _ W) (fun W hW => pP_is W)) ?_
  refine zab (.int .i64 (-1)) rfl (zat (args:=[nv x.val,nv Pt.pp]) rfl rfl (fun W => zaf Tryz.func113 rfl rfl _ W) (fun W hW => cmp_in kx.out W)) ?_;simp only [aP,lA,lZ,lS]
  refine zab (.bool false) rfl (zfb rfl rfl (by decide)) ?_
  refine zab (.bool false) rfl (zap (.inl rfl) rfl) ?_;simp only [aP,lA,lZ,lS]
  refine zbg (.pointer (some ⟨w.heap.size + 1,4,none⟩)) rfl (zak rfl rfl (fldT1 _ ·)) ?_
  refine zbg (nv y.val) rfl (zam rfl rfl b1 rfl uN rfl (iN _)) ?_;simp only [aP,lA,lZ,lS]
  refine zbg (nv Pt.pp) rfl (zat (args:=[]) rfl rfl (fun W => zaf Tryz.func109 rfl rfl _ W) (fun W hW => pP_is W)) ?_
  refine zbg (.int .i64 (-1)) rfl (zat (args:=[nv y.val,nv Pt.pp]) rfl rfl (fun W => zaf Tryz.func113 rfl rfl _ W) (fun W hW => cmp_in ky.out W)) ?_;simp only [aP,lA,lZ,lS]
  refine zbg (.bool false) rfl (zfb rfl rfl (by decide)) ?_
  refine zab (.bool false) rfl (zci rfl rfl rfl) ?_;simp only [aP,lA,lZ,lS]
  exact zbb
 refine zfs rfl (by kernel_rfl) ?_
 intro w3 hE
 refine NoPanic.normal ?_
 replace b0:=hE.block b0
 replace b1:=hE.block b1
 replace hf:=hf.ext hE
 replace hx:=hx.trans hE
 clear hE
 go_upto_region 5 with (fail)
 refine' wp_made (m:=12) (A:=_) 13 (by kernel_rfl) (by kernel_rfl) (by kernel_rfl) ?h3a ?h3b
 case h3a =>
  refine zab (.pointer (some ⟨w.heap.size,2,none⟩)) rfl (zak rfl rfl (fldK2 _ ·)) ?_
  refine zab (fv 89 b) rfl (zax rfl rfl b0 rfl (zfe ·)) ?_;simp only [aP,lA,lZ,lS]
  refine zab (.pointer (some ⟨w.heap.size,2,none⟩)) rfl (zak rfl rfl (fldK2 _ ·)) ?_
  refine zab (fv 89 b) rfl (zax rfl rfl b0 rfl (zfe ·)) ?_;simp only [aP,lA,lZ,lS]
  refine zab (ptrTo (w.heap.size + 1)) rfl (zak rfl rfl (fldT0 _ ·)) ?_
  refine zab (nv x.val) rfl (zam rfl rfl b1 rfl uN rfl (iN _)) ?_;simp only [aP,lA,lZ,lS]
  refine zab (ptrTo (w.heap.size + 1)) rfl (zak rfl rfl (fldT0 _ ·)) ?_
  refine zab (nv x.val) rfl (zam rfl rfl b1 rfl uN rfl (iN _)) ?_;simp only [aP,lA,lZ,lS]
  refine zab (nv sq.val) rfl (zhh (args:=[nv x.val,nv x.val]) rfl rfl rfl (he_kMul _ ·) (fun W hW => kmul_p ksq.out (hf.ext hW))) ?_
  refine zab (ptrTo (w.heap.size + 1)) rfl (zak rfl rfl (fldT0 _ ·)) ?_;simp only [aP,lA,lZ,lS]
  refine zab (nv x.val) rfl (zam rfl rfl b1 rfl uN rfl (iN _)) ?_
  refine zab (nv cube.val) rfl (zhh (args:=[nv sq.val,nv x.val]) rfl rfl rfl (he_kMul _ ·) (fun W hW => kmul_p kcube.out (hf.ext hW))) ?_;simp only [aP,lA,lZ,lS]
  exact zbb
 refine rest_var _ _ rfl rfl rfl rfl rfl rfl rfl rfl rfl (by kernel_rfl) (by kernel_rfl) (by kernel_rfl) rfl rfl (hzN ·) (fun _ => rfl) (fun _ => rfl) (iN _) rfl (nc_one _) ?_
 intro gcube w4 hgcube bcube hE
 refine NoPanic.normal ?_
 replace b0:=hE.block b0
 replace b1:=hE.block b1
 replace hf:=hf.ext hE
 replace hx:=hx.trans hE
 clear hE
 simp only [aP,lA,lZ,lS]
 clear hgcube
 go_upto_region 6 with (fail)
 refine' wp_made (m:=21) (A:=_) 21 (by kernel_rfl) (by kernel_rfl) (by kernel_rfl) ?h4a ?h4b
 case h4a =>
  refine zab (.pointer (some ⟨w.heap.size,2,none⟩)) rfl (zak rfl rfl (fldK2 _ ·)) ?_
  refine zab (fv 89 b) rfl (zax rfl rfl b0 rfl (zfe ·)) ?_;simp only [aP,lA,lZ,lS]
  refine zab (.pointer (some ⟨w.heap.size + 1,4,none⟩)) rfl (zak rfl rfl (fldT1 _ ·)) ?_
  refine zab (nv y.val) rfl (zam rfl rfl b1 rfl uN rfl (iN _)) ?_;simp only [aP,lA,lZ,lS]
  refine zab (.pointer (some ⟨w.heap.size + 1,4,none⟩)) rfl (zak rfl rfl (fldT1 _ ·)) ?_
  refine zab (nv y.val) rfl (zam rfl rfl b1 rfl uN rfl (iN _)) ?_;simp only [aP,lA,lZ,lS]
  refine zab (nv lhs.val) rfl (zhh (args:=[nv y.val,nv y.val]) rfl rfl rfl (he_kMul _ ·) (fun W hW => kmul_p klhs.out (hf.ext hW))) ?_
  refine zab (ptrTo w.heap.size) rfl (zak rfl rfl (fldK0 _ ·)) ?_;simp only [aP,lA,lZ,lS]
  refine zab (fv 110 b) rfl (zax rfl rfl b0 rfl (zfe ·)) ?_
  refine zab (.pointer (some ⟨w.heap.size,1,none⟩)) rfl (zak rfl rfl (fldK1 _ ·)) ?_;simp only [aP,lA,lZ,lS]
  refine zab (fv 111 b) rfl (zax rfl rfl b0 rfl (zfe ·)) ?_
  refine zab (nv cube.val) rfl (zam rfl rfl bcube rfl uN rfl (iN _)) ?_;simp only [aP,lA,lZ,lS]
  refine zab (cv b) rfl (zam rfl rfl b0 rfl Tryz.underlying126 rfl (iK _)) ?_
  refine zab (ptrTo (w.heap.size + 1)) rfl (zak rfl rfl (fldT0 _ ·)) ?_;simp only [aP,lA,lZ,lS]
  refine zab (nv x.val) rfl (zam rfl rfl b1 rfl uN rfl (iN _)) ?_
  refine zab (nv tr.val) rfl (zat (args:=[cv b,nv x.val]) rfl rfl (fun W => zaf Tryz.func114 rfl rfl _ W) (fun W hW => trp_calls ktr.out (hf.ext hW))) ?_;simp only [aP,lA,lZ,lS]
  refine zab (nv d.val) rfl (zhh (args:=[nv cube.val,nv tr.val]) rfl rfl rfl (he_kSub _ ·) (fun W hW => ksub_p kd.out (hf.ext hW))) ?_
  refine zab (nv ((Pt.F Pt.bb : Fe).val)) rfl (zat (args:=[]) rfl rfl (fun W => zaf Tryz.func115 rfl rfl _ W) (fun W hW => bb_is W)) ?_;simp only [aP,lA,lZ,lS]
  refine zab (nv r.val) rfl (zhh (args:=[nv d.val,nv ((Pt.F Pt.bb : Fe).val)]) rfl rfl rfl (he_kAdd _ ·) (fun W hW => kadd_p kr.out (hf.ext hW))) ?_
  refine zab (.bool (decide (lhs.val = r.val))) rfl (made_eqn rfl rfl rfl (zfg _) (zfg _)) ?_;simp only [aP,lA,lZ,lS]
  refine zab (.bool (decide (lhs.val = r.val))) rfl (zap (.inr rfl) rfl) ?_;simp only [aP,lA,lZ,lS]
  exact zbb
 refine zfs rfl (by kernel_rfl) ?_
 intro w5 hE
 refine NoPanic.normal ?_
 replace hf:=hf.ext hE
 replace hx:=hx.trans hE
 clear hE
 go_wp2
 go_ret
 exact ⟨rfl,hx⟩
section
variable {n : Nat} [NeZero n]
theorem three_x (x : Fin n) : x + x + x = 3 * x:=by grobner
end
section
variable {n : Nat} [NeZero n]
theorem r0 (y : Fin n) : y * 0 + y * 0 = 0:=by grobner
theorem r1 (Y z : Fin n) : Y * (z * z * z) * z + Y * (z * z * z) * z = (Y + Y) * (z * z * (z * z)):=by grobner
theorem r2 (u i d : Fin n) (h : d * i = 1) : u * i * d = u:=by
 have e : u * i * d = u * (d * i):=by grobner
 rw [e,h]
 grobner
theorem r3 (X : Fin n) : X = X * (1 * 1):=by grobner
theorem r4 (X : Fin n) : X = X * (1 * 1 * 1):=by grobner
end
def qvP (p : Pt.P Pt.pp) : Value:=qv (Pt.pX p) (Pt.pY p) (Pt.pFar p)
theorem on_calls {b : Nat} (X Y : Nat) (f : Bool) (hX : X < top) (hY : Y < top) {w : World} (hF : Fp w b) :
  Calls Tryz.prog 78 #[cv b,qv X Y f] w fun e w' => e = .returned (.bool (onB X Y f)) ∧ Ext w w':=by
 unfold onB
 cases f with
 | true =>
  by_cases h0 : X = 0
  ·
   subst h0
   simp only [if_true,decide_true,Bool.true_and]
   exact on_far0 Y hY hF
  ·
   simp only [if_true,h0,decide_false,Bool.false_and]
   exact on_far1 X Y hX h0 hF
 | false =>
  by_cases hx : X < Pt.pp
  ·
   by_cases hy : Y < Pt.pp
   ·
    simp only [Bool.false_eq_true,if_false,hx,hy,decide_true,Bool.true_and]
    have k:=on_near (b:=b) ⟨X,hx⟩ ⟨Y,hy⟩ hF
    rw [three_x,← right_val,← Pt.v_mul] at k
    exact k
   ·
    simp only [Bool.false_eq_true,if_false,hx,hy,decide_true,decide_false,Bool.true_and,Bool.false_and]
    exact on_high X Y hx hY hy hF
  ·
   simp only [Bool.false_eq_true,if_false,hx,decide_false,Bool.false_and]
   exact on_out X Y hX hx hF
theorem Fp.but {w W : World} {b r : Nat} (h : Fp w b) (hB : But r w W) (hne : b ≠ r) : Fp W b:=by
 obtain ⟨N,Q,h1,h2⟩:=h
 exact ⟨N,Q,h1,h2.of_block (hB.block b h2.lt (by intro e; simp at e; exact hne e))⟩
theorem on_is (X Y : Nat) (f : Bool) (hX : X < top) (hY : Y < top) (w : World) :
  Calls Tryz.prog 47 #[qv X Y f] w fun e w' => e = .returned (.bool (onB X Y f)) ∧ Ext w w':=by
 have KO:=veil (fun (b : Nat) (w : World) (hF : Fp w b) => on_calls X Y f hX hY hF)
 obtain ⟨r,hr⟩ : ∃ r,r = onB X Y f:=⟨_,rfl⟩
 rw [← hr] at KO ⊢
 clear hX hY hr
 unfold qv qc
 go_enter Tryz.func47,Tryz.ntmps47
 go_upto_region 1 with (fail)
 refine zfn fun w1 hx b0 => ?_
 have b0 : w1.heap[w.heap.size]? = some (.cells (qc X Y f) 29 (0,0)):=b0
 refine wp_region_noPanic ?_
 refine wp_region_held_drew (S:=fun W => Ext w1 W) (by kernel_rfl) (Ext.drew _) (fun hH => ?_)
 refine wpAnyH_take (i:=1) (v:=qv X Y f) rfl (by kernel_rfl) (by kernel_rfl) (by decide +kernel) (fun _ _ _ h => h) (yieldsIf_load_mid (by rfl) _ _ rfl _ _ rfl (qc X Y f).toList _ (fun W hW j v hv => by rw [cell_of_row W _ _ (qc X Y f) 29 (0,0) (hW.block b0),Nat.zero_add]; simpa using hv) Tryz.underlying29 rfl (iT X Y f)) hH ?_
 refine wpAnyH_ready (rs:=[0]) (by decide +kernel) (by simp) ?_
 refine AllReadyH.cons rfl (fun K hK => ?_) AllReadyH.nil
 go_simp
 refine (curve_calls _).mono ?_
 rintro e w2 ⟨b,rfl,hF,hE⟩
 refine hK.out _ _ (hH.trans hE) (fun hH => ?_)
 clear hK K hE
 refine wpAnyH_ready (rs:=[2]) (by decide +kernel) (by simp) ?_
 refine AllReadyH.cons rfl (fun K hK => ?_) AllReadyH.nil
 go_simp
 refine (KO.out _ _ hF).mono ?_
 rintro e w3 ⟨rfl,hE⟩
 refine hK.out _ _ (hH.trans hE) (fun hH => ?_)
 clear hK K hE
 refine wpAnyH_take (i:=3) (v:=.bool r) rfl (by kernel_rfl) (by kernel_rfl) (by decide +kernel) (fun _ _ _ h => h) (Or.inl ⟨by rfl,fun W hSw => (by dsimp only at hSw; go_simp)⟩) hH ?_
 refine wpAnyH_done (by decide +kernel) ?_ _
 refine NoPanic.normal ?_
 go_wp2
 go_ret
 exact ⟨rfl,hx.trans hH⟩
def prevI (l : List Ky) (j : Nat) : Int:=if j = 0 then 0 else (l.getD (j - 1) ky0).i
def okO (l : List Ky) (j : Nat) : Prop:=prevI l j < (l.getD j ky0).i ∧ (l.getD j ky0).i ≤ 2147483647 ∧ 0 ≤ (l.getD j ky0).a ∧ (l.getD j ky0).a ≤ (l.getD j ky0).b ∧ (l.getD j ky0).b ≤ 1073741824
instance (l : List Ky) (j : Nat) : Decidable (okO l j):=by unfold okO; exact inferInstance
def ordK (l : List Ky) : Bool:=decide (l.length ≤ 32 ∧ ∀ j,j < l.length → okO l j)
def offK (k : Ky) : Bool:=k.f || !onB k.x k.y k.f
theorem ordK_false {l : List Ky} {j : Nat} (hj : j < l.length) (h : ¬ okO l j) : ordK l = false:=decide_eq_false fun hh => h (hh.2 j hj)
theorem okO_pos {l : List Ky} : ∀ j,(∀ q,q ≤ j → okO l q) → 1 ≤ (l.getD j ky0).i
 | 0,h => by
  have h1:=(h 0 (Nat.le_refl _)).1
  unfold prevI at h1
  rw [if_pos rfl] at h1
  omega
 | j + 1,h => by
  have h1:=(h (j + 1) (Nat.le_refl _)).1
  have h2:=okO_pos j fun q hq => h q (by omega)
  unfold prevI at h1
  rw [if_neg (by omega),show j + 1 - 1 = j by omega] at h1
  omega
theorem any_off {l : List Ky} (h : l.any offK = false) {j : Nat} (hj : j < l.length) : offK (l.getD j ky0) = false:=by
 rw [List.any_eq_false] at h
 have:=h (l.getD j ky0) (List.mem_of_getElem? (zcn hj))
 simpa using this
theorem zfa (l : List Ky) : mayK l = (ordK l && !l.any offK):=by
 rw [Bool.eq_iff_iff,Bool.and_eq_true,Bool.not_eq_true']
 constructor
 ·
  intro h
  refine ⟨decide_eq_true ⟨mayK_32 h,fun j hj => ?_⟩,?_⟩
  ·
   obtain ⟨h1,h2,_,_,h5,h6,h7,h8⟩:=mayK_ok h hj
   refine ⟨?_,h2,h5,h6,h7⟩
   unfold prevI
   by_cases e : j = 0
   ·
    rw [if_pos e]; omega
   ·
    rw [if_neg e]; exact h8 (by omega)
  ·
   rw [List.any_eq_false]
   intro k hk
   obtain ⟨_,_,h3,h4,_⟩:=mayK_each h k hk
   unfold offK
   rw [h4,h3]
   decide
 ·
  rintro ⟨h,ha⟩
  have h:=of_decide_eq_true h
  refine decide_eq_true ⟨h.1,fun j hj => ?_⟩
  obtain ⟨h1,h2,h3,h4,h5⟩:=h.2 j hj
  have hp:=okO_pos j fun q hq => h.2 q (by omega)
  have ho:=any_off ha hj
  unfold offK at ho
  rw [Bool.or_eq_false_iff,Bool.not_eq_false'] at ho
  refine ⟨hp,h2,ho.2,ho.1,h3,h4,h5,fun h0 => ?_⟩
  unfold prevI at h1
  rwa [if_neg (by omega)] at h1
theorem zdv (v : Value) (l : List Ky) (w : World) (hF : Ks w v l) (hL : l.length ≤ 1000000000) :
  Calls Tryz.prog 23 #[v] w fun e w' => e = .returned (.bool (ordK l)) ∧ Ext w w':=by
 obtain ⟨AL,c,rfl,hc,hx⟩:=hF
 obtain ⟨R,hR⟩ : ∃ R,R = ordK l:=⟨_,rfl⟩
 rw [← hR]
 obtain ⟨n,hn⟩ : ∃ n,n = l.length:=⟨_,rfl⟩
 rw [← hn] at hx hc hL ⊢
 have HR:=veil (And.intro hR hn)
 have HX:=veil hx
 clear hR hx hn
 by_cases h32 : (32 : Int) < (n : Int)
 ·
  have hd : decide ((32 : Int) < (n : Int)) = true:=decide_eq_true h32
  have e : R = false:=by
   rw [HR.out.1]
   exact decide_eq_false fun hh => by have:=hh.1; have:=HR.out.2; omega
  subst e
  go_enter Tryz.func23,Tryz.ntmps23
  go_wp2
  go_ret
  exact ⟨rfl,Ext.refl _⟩
 ·
  have hd : decide ((32 : Int) < (n : Int)) = false:=decide_eq_false h32
  have hn32 : n ≤ 32:=by omega
  clear hL h32
  go_enter Tryz.func23,Tryz.ntmps23
  go_wp2
  go_loopw [3,11] (fun s v wr => ∃ (i : Nat) (P : Int),i ≤ n ∧ s = .int .i64 P ∧ v = .int .i64 (i : Int) ∧ (∀ j,j < i → okO l j) ∧ P = prevI l i ∧ Ext w wr)
   (fun _ v _ => n - (intOf v).toNat)
  case atStart => exact ⟨0,0,by omega,rfl,rfl,fun j hj => by omega,rfl,Ext.refl _⟩
  case round =>
   obtain ⟨i,P,hi,rfl,rfl,hall,hP,hE⟩:=hrel
   by_cases hlt : i < n
   ·
    have hd1 : decide ((i : Int) < (n : Int)) = true:=by simp; omega
    have hii : (i : Int) < (n : Int):=by omega
    obtain ⟨b,o,hAL,hb,hcl⟩:=HX.out.resolve_left (by omega)
    have hil : i < l.length:=by have:=HR.out.2; omega
    have HRG:=veil (zbd hE hb (hcl i _ (zcn hil)))
    obtain ⟨k,hk⟩ : ∃ k,k = l.getD i ky0:=⟨_,rfl⟩
    rw [← hk] at HRG
    have hfalse : ¬ (P < k.i ∧ k.i ≤ 2147483647 ∧ 0 ≤ k.a ∧ k.a ≤ k.b ∧ k.b ≤ 1073741824) → R = false:=fun h => HR.out.1.trans (ordK_false hil (by unfold okO; rw [← hk,← hP]; exact h))
    have htrue : (P < k.i ∧ k.i ≤ 2147483647 ∧ 0 ≤ k.a ∧ k.a ≤ k.b ∧ k.b ≤ 1073741824) → ∀ j,j < i + 1 → okO l j:=fun h j hj => by
     by_cases e : j = i
     ·
      subst e
      unfold okO
      rw [← hk,← hP]
      exact h
     ·
      exact hall j (by omega)
    have hnx : k.i = prevI l (i + 1):=by
     unfold prevI
     rw [if_neg (by omega),show i + 1 - 1 = i by omega,hk]
    have HF:=veil (And.intro hfalse (And.intro htrue hnx))
    clear hfalse htrue hnx hall hP hk hcl hil
    subst hAL
    go_upto_region 7 with (first
     | ((with_reducible refine zah 14 ?_); refine wpList_load_mid rfl 55 _ rfl b _ rfl (kyC k) _ HRG.out Tryz.underlying55 rfl (iKy k) ?_)
     | ((with_reducible refine zah 5 ?_); refine zcu _ _ rfl rfl rfl rfl rfl rfl hzKy (fun _ => rfl) (fun _ => rfl) (iKyA k) (zfd k) (zfw k) ?_; intro g W hg hW hEW))
    have hEE:=hE.trans hEW
    have c0:=ky_i (zcr hW)
    have c10:=ky_a (zcr hW)
    have c11:=ky_b (zcr hW)
    simp only [Nat.zero_add] at c0 c10 c11
    clear hW hEW hE hb HRG
    by_cases g1 : k.i ≤ P
    ·
     obtain rfl : R = false:=HF.out.1 fun h => by omega
     have hd2 : decide (k.i ≤ P) = true:=decide_eq_true g1
     go_wp2
     go_ret
     exact ⟨rfl,hEE⟩
    ·
     have hd2 : decide (k.i ≤ P) = false:=decide_eq_false g1
     by_cases g2 : 2147483647 < k.i
     ·
      obtain rfl : R = false:=HF.out.1 fun h => by omega
      have hd3 : decide (2147483647 < k.i) = true:=decide_eq_true g2
      go_wp2
      go_ret
      exact ⟨rfl,hEE⟩
     ·
      have hd3 : decide (2147483647 < k.i) = false:=decide_eq_false g2
      by_cases g3 : k.a < 0
      ·
       obtain rfl : R = false:=HF.out.1 fun h => by omega
       have hd4 : decide (k.a < 0) = true:=decide_eq_true g3
       go_wp2
       go_ret
       exact ⟨rfl,hEE⟩
      ·
       have hd4 : decide (k.a < 0) = false:=decide_eq_false g3
       by_cases g4 : k.b < k.a
       ·
        obtain rfl : R = false:=HF.out.1 fun h => by omega
        have hd5 : decide (k.b < k.a) = true:=decide_eq_true g4
        go_wp2
        go_ret
        exact ⟨rfl,hEE⟩
       ·
        have hd5 : decide (k.b < k.a) = false:=decide_eq_false g4
        by_cases g5 : 1073741824 < k.b
        ·
         obtain rfl : R = false:=HF.out.1 fun h => by omega
         have hd6 : decide (1073741824 < k.b) = true:=decide_eq_true g5
         go_wp2
         go_ret
         exact ⟨rfl,hEE⟩
        ·
         have hd6 : decide (1073741824 < k.b) = false:=decide_eq_false g5
         go_wp2
         go_roundw
         case rel => exact ⟨i + 1,k.i,by omega,rfl,by go_num,HF.out.2.1 (by omega),HF.out.2.2,hEE⟩
         case measure => simp [intOf]; omega
   ·
    obtain rfl : i = n:=by omega
    have hd1 : decide ((i : Int) < (i : Int)) = false:=by simp
    have e : R = true:=by
     rw [HR.out.1]
     exact decide_eq_true ⟨by have:=HR.out.2; omega,fun j hj => hall j (by have:=HR.out.2; omega)⟩
    subst e
    clear hall hP
    go_wp2
    go_ret
    exact ⟨rfl,hE⟩
theorem wpl_midG {P : Program} {ops : Array Oper} {rest : List Oper} {op : Oper} {a : Act} {w : World} {Q : Exit → Act → World → Prop} (hgd : Region.wanted op (yielded ops a.tmps) = true) (ty : TypeId) (x : Operand) (ho : op.op = .load ty x)
  (b o : Nat) (hx : a.eval x = .pointer (some ⟨b,o,none⟩)) (cs : List Value) (d : TypeDesc) (hc : w.rangeAt b o cs)
  (hu : P.underlying ty = some d) (hd : d.isRow = true) (hi : (P.info? ty).map (·.size) = some cs.length)
  (h : wpList P ops Q rest (a.put op.dst (.agg cs.toArray)) w) : wpList P ops Q (op :: rest) a w :=
 wpList_step fun K hK => by
  rw [if_pos hgd]
  exact wp_load_mid ty x ho b o hx cs d hc hu hd hi (hK _ _ h)
theorem isOff_calls (k : Ky) (hx : k.x < top) (hy : k.y < top) (w : World) :
  Calls Tryz.prog 25 #[.agg (kyC k).toArray] w fun e w' => e = .returned (.bool (offK k)) ∧ Ext w w':=by
 have KO:=veil (fun W => on_is k.x k.y k.f hx hy W)
 obtain ⟨R,hR⟩ : ∃ R,R = offK k:=⟨_,rfl⟩
 rw [← hR]
 have HR:=veil hR
 clear hx hy hR
 obtain ⟨C,hC⟩ : ∃ C,C = (kyC k).toArray:=⟨_,rfl⟩
 rw [← hC]
 have HC:=veil hC
 clear hC
 go_enter Tryz.func25,Tryz.ntmps25
 go_upto_region 1 with (fail)
 obtain ⟨g,hg⟩ : ∃ g,g = w.heap.size:=⟨_,rfl⟩
 have h0:=zag w (.cells C 55)
 have hE0:=Ext.alloc w (.cells C 55)
 generalize w.alloc (.cells C 55) = w0 at *
 rw [← hg] at h0 ⊢
 rw [HC.out] at h0
 have c9:=ky_f (zcr h0)
 have HQ:=veil (ky_q (zcr h0))
 simp only [Nat.zero_add] at c9 HQ
 have HE:=veil hE0
 clear h0 hE0 hg
 cases hf : k.f with
 | true =>
  rw [hf] at c9
  obtain rfl : R = true:=by rw [HR.out]; unfold offK; rw [hf]; rfl
  clear hf KO HQ HR
  go_wp2
  go_ret
  exact ⟨rfl,HE.out⟩
 | false =>
  rw [hf] at c9
  have e : R = !onB k.x k.y k.f:=by rw [HR.out]; unfold offK; rw [hf]; rfl
  obtain ⟨r,hr⟩ : ∃ r,r = onB k.x k.y k.f:=⟨_,rfl⟩
  rw [← hr] at KO e
  clear hr hf HR
  cases r with
  | true =>
   obtain rfl : R = false:=e
   go_wp2_with (first
    | ((with_reducible refine zah 8 ?_); refine wpl_midG rfl 29 _ rfl g 1 rfl _ _ HQ.out Tryz.underlying29 rfl (iT k.x k.y k.f) ?_)
    | (go_at_call 47; refine (KO.out _).mono ?_; rintro e w1 ⟨rfl,hE1⟩))
   go_ret
   exact ⟨rfl,HE.out.trans hE1⟩
  | false =>
   obtain rfl : R = true:=e
   go_wp2_with (first
    | ((with_reducible refine zah 8 ?_); refine wpl_midG rfl 29 _ rfl g 1 rfl _ _ HQ.out Tryz.underlying29 rfl (iT k.x k.y k.f) ?_)
    | (go_at_call 47; refine (KO.out _).mono ?_; rintro e w1 ⟨rfl,hE1⟩))
   go_ret
   exact ⟨rfl,HE.out.trans hE1⟩
end Go.Proofs.YthlbemnbmbmjhaaGreatDoor
