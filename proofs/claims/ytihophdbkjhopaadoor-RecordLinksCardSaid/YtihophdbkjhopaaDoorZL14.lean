/-
  Of FCut FCutn FAdd2 NS4 W0 KH Rcr KR Rdd Rde Rdf.
-/
import Derived.Deep.CutRange
import Derived.Deep.QuietTactic
import Derived.BigQuiet
import Derived.Deep.RegionWith
import Derived.Test.YtihophdbkjhopaaDoorRows
import Derived.WalkKit
import Derived.WalkSpells
import Derived.WalkLawsBesides
import Derived.Deep.AppendLies
import Derived.Deep.RegionHeld3
import Derived.Test.YtihophdbkjhopaaDoorCards
import Derived.Test.YtihophdbkjhopaaDoorTie
import Derived.Carry
import Derived.Laws.CopyOwn
import Derived.Laws.IdiomStrings
import Derived.Great.BuildSlice
import Derived.Test.YtihophdbkjhopaaDoorZL13
import Derived.Test.YtihophdbkjhopaaDoorZL12
import Derived.Test.YtihophdbkjhopaaDoorZL3
import Derived.Test.YtihophdbkjhopaaDoorZL4
import Derived.Test.YtihophdbkjhopaaDoorZL8
import Derived.Test.YtihophdbkjhopaaDoorZL2
import Derived.Test.YtihophdbkjhopaaDoorZL1
import Derived.Test.YtihophdbkjhopaaDoorZL7
import Derived.Test.YtihophdbkjhopaaDoorZL6
import Derived.Test.YtihophdbkjhopaaDoorZL11
import Derived.Test.YtihophdbkjhopaaDoorZL10
set_option maxRecDepth 1000000
set_option maxHeartbeats 20000000
namespace Go.Proofs.YtihophdbkjhopaaDoor
open Go.RowKit
open Go.Value renaming int → vI
open Go.IntKind renaming u64 → vU
open Go.Act renaming put → aP
open List renaming setIfInBounds_toArray → lA, set_cons_zero → lZ, set_cons_succ → lS
theorem kshr (b X M : Nat) (N : Int) (Q V Z : Nat) (hV : V * top % M = X % M) (hlt : X < M * top) (hX : X < top8) (hZ : V % M = Z) (hK : Fok M N Q) (w : World) (hF : Fb w b M N Q) :
  Calls Tryd.prog 72 #[.pointer (some ⟨b,0,none⟩),.agg #[vI vU (wd X 0),vI vU (wd X 1),vI vU (wd X 2),vI vU (wd X 3),vI vU (wd X 4),vI vU (wd X 5),vI vU (wd X 6),vI vU (wd X 7)]] w fun e w' => e = .returned (.agg #[vI vU (wd Z 0),vI vU (wd Z 1),vI vU (wd Z 2),vI vU (wd Z 3)]) ∧ Below w.heap.size w w':=by
 refine (shrunk_any b X M N Q hX hK w hF).mono ?_
 rintro e w' ⟨⟨Z',h1,h2,h3,rfl⟩,hb⟩
 have e1:=cut_top hK.odd (h2.trans hV.symm)
 rw [Nat.mod_eq_of_lt (h3 hlt),hZ] at e1
 subst e1
 exact ⟨rfl,hb⟩
theorem sq_num {Z X M : Nat} {N : Int} {Q : Nat} (hK : Fok M N Q) (h : Z * top % M = X % M) : X * top % M = Z * Q % M:=by
 rw [hK.q,Nat.mul_mod_mod,zft,← Nat.mul_assoc,← Nat.mod_mul_mod (Z * top),h,Nat.mod_mul_mod]
theorem mul_lt8 {X Y : Nat} (hX : X < top) (hY : Y < top) : X * Y < top8:=by
 rw [zft]; exact Nat.mul_lt_mul'' hX hY
theorem mul_ltm {X Q M : Nat} (hX : X < top) (hQ : Q < M) : X * Q < M * top:=by
 rw [Nat.mul_comm M]; exact Nat.mul_lt_mul'' hX hQ
theorem cutw_calls (b X M : Nat) (N : Int) (Q P : Nat) (hX : X < top8) (hK : Fok M N Q) (hP : X % M = P) (w : World) (hF : Fb w b M N Q) :
  Calls Tryd.prog 47 #[.pointer (some ⟨b,0,none⟩),.agg #[vI vU (wd X 0),vI vU (wd X 1),vI vU (wd X 2),vI vU (wd X 3),vI vU (wd X 4),vI vU (wd X 5),vI vU (wd X 6),vI vU (wd X 7)]] w fun e w' => e = .returned (.agg #[vI vU (wd P 0),vI vU (wd P 1),vI vU (wd P 2),vI vU (wd P 3)]) ∧ Below w.heap.size w w':=by
 have hQ:=hK.qm
 have hQt : Q < top:=by have:=hK.mt; omega
 have HX:=veil hX
 have HQ:=veil hQ
 have HP:=veil hP
 clear hX hQ hP
 have hA : ((w.alloc (.cells #[vI vU (wd X 0),vI vU (wd X 1),vI vU (wd X 2),vI vU (wd X 3),vI vU (wd X 4),vI vU (wd X 5),vI vU (wd X 6),vI vU (wd X 7)] 102)).alloc (.cells #[vI vU 0,vI vU 0,vI vU 0,vI vU 0] 25)).rowIs w.heap.size 102 8 (fun j => .int .u64 (wd X j)):=(zad (n:=8) (by simp) rfl (arr8 fun j => .int .u64 (wd X j))).alloc _
 have hR : ((w.alloc (.cells #[vI vU (wd X 0),vI vU (wd X 1),vI vU (wd X 2),vI vU (wd X 3),vI vU (wd X 4),vI vU (wd X 5),vI vU (wd X 6),vI vU (wd X 7)] 102)).alloc (.cells #[vI vU 0,vI vU 0,vI vU 0,vI vU 0] 25)).rowIs (w.heap.size + 1) 25 4 (fun _ => .int .u64 0):=zad (n:=4) (by simp) rfl (arr4 fun _ => .int .u64 0)
 have hbel : Below w.heap.size w ((w.alloc (.cells #[vI vU (wd X 0),vI vU (wd X 1),vI vU (wd X 2),vI vU (wd X 3),vI vU (wd X 4),vI vU (wd X 5),vI vU (wd X 6),vI vU (wd X 7)] 102)).alloc (.cells #[vI vU 0,vI vU 0,vI vU 0,vI vU 0] 25)):=((Below.refl _ _).alloc (by simp) _).alloc (by simp) _
 have hFr : Fb ((w.alloc (.cells #[vI vU (wd X 0),vI vU (wd X 1),vI vU (wd X 2),vI vU (wd X 3),vI vU (wd X 4),vI vU (wd X 5),vI vU (wd X 6),vI vU (wd X 7)] 102)).alloc (.cells #[vI vU 0,vI vU 0,vI vU 0,vI vU 0] 25)) b M N Q:=((hF).alloc _).alloc _
 have hbs:=hF.lt
 clear hF
 go_enter Tryd.func47,Tryd.ntmps47
 go_wp2_with fail
 generalize ((w.alloc (.cells #[vI vU (wd X 0),vI vU (wd X 1),vI vU (wd X 2),vI vU (wd X 3),vI vU (wd X 4),vI vU (wd X 5),vI vU (wd X 6),vI vU (wd X 7)] 102)).alloc (.cells #[vI vU 0,vI vU 0,vI vU 0,vI vU 0] 25)) = w0 at *
 obtain ⟨a0,a1,a2,a3,a4,a5,a6,a7⟩:=row_c8 hA
 obtain ⟨s0,s1,s2,s3⟩:=hFr.sq
 obtain ⟨f0,f1,f2,f3⟩:=zaw hR
 obtain ⟨d0,d1,d2,d3⟩:=zaf hR
 go_region_with (first
  | (go_at_call 72; refine (kshr b (Z * Q) M N Q X P (sq_num hK HZ.out) (mul_ltm hZt HQ.out) (mul_lt8 hZt hQt) HP.out hK _ (by exact hFr)).mono ?_; rintro e w3 ⟨rfl,hb3⟩; replace hR:=zaa (by exact hR) hb3 (by exact hR.lt); replace hFr:=Fb.below (by exact hFr) hb3 (by exact hFr.lt); replace hbel:=Below.trans (by first | exact hbel | exact hbel.drew) (hb3.mono (by exact hbel.size)); obtain ⟨f0,f1,f2,f3⟩:=zaw hR; obtain ⟨d0,d1,d2,d3⟩:=zaf hR)
  | (go_at_call 72; refine (shrunk_any b X M N Q HX.out hK _ (by exact hFr)).mono ?_; rintro e w1 ⟨⟨Z,hZt,hZ1,_,rfl⟩,hb1⟩; replace hR:=zaa (by exact hR) hb1 (by exact hR.lt); replace hFr:=Fb.below (by exact hFr) hb1 (by exact hFr.lt); replace hbel:=Below.trans (by first | exact hbel | exact hbel.drew) (hb1.mono (by exact hbel.size)); have HZ:=veil hZ1; clear hZ1; obtain ⟨s0,s1,s2,s3⟩:=hFr.sq)
  | (go_at_call 48; refine (kmul Z Q _ rfl hZt hQt _).mono ?_; rintro e w2 ⟨rfl,hb2⟩; replace hR:=zaa (by exact hR) hb2 (by exact hR.lt); replace hFr:=Fb.below (by exact hFr) hb2 (by exact hFr.lt); replace hbel:=Below.trans (by first | exact hbel | exact hbel.drew) (hb2.mono (by exact hbel.size))))
 all_goals
  clear a0 a1 a2 a3 a4 a5 a6 a7 s0 s1 s2 s3 f0 f1 f2 f3 d0 d1 d2 d3
  go_wp2
  refine bodyPost_ret (results_cell_row rfl _ _ (w.heap.size + 1) 25 #[vI vU (wd P 0),vI vU (wd P 1),vI vU (wd P 2),vI vU (wd P 3)] (0,0) _ rfl (blk4 (put4 hR fun j => .int .u64 (wd (P) j))) Tryd.underlying25 rfl (by kernel_rfl)) rfl ⟨rfl,zap hbel (by omega) _ _ _ _⟩
theorem top_lt8 {X : Nat} (h : X < top) : X < top8:=by
 rw [zft]; exact Nat.lt_of_lt_of_le h (Nat.le_mul_of_pos_right _ zce)
theorem fcut_less (b X M : Nat) (N : Int) (Q P : Nat) (hX : X < top) (hK : Fok M N Q) (hP : X % M = P) (hl : X < M) (w : World) (hF : Fb w b M N Q) :
  Calls Tryd.prog 74 #[.pointer (some ⟨b,0,none⟩),.agg #[vI vU (wd X 0),vI vU (wd X 1),vI vU (wd X 2),vI vU (wd X 3)]] w fun e w' => e = .returned (.agg #[vI vU (wd P 0),vI vU (wd P 1),vI vU (wd P 2),vI vU (wd P 3)]) ∧ Below w.heap.size w w':=by
 obtain ⟨c,hc⟩ : ∃ c,c = cmpN X M:=⟨_,rfl⟩
 have hcn : c = -1:=by rw [hc]; unfold cmpN; rw [if_pos hl]
 have KC:=veil (fun W => kcmp X M c hc.symm hX hK.mt W)
 rw [Nat.mod_eq_of_lt hl] at hP
 subst hP
 subst hcn
 clear hc hl hX
 have hA : ((w.alloc (.cells #[vI vU (wd X 0),vI vU (wd X 1),vI vU (wd X 2),vI vU (wd X 3)] 25)).alloc (.cells #[vI vU 0,vI vU 0,vI vU 0,vI vU 0] 25)).rowIs w.heap.size 25 4 (fun j => .int .u64 (wd X j)):=(zad (n:=4) (by simp) rfl (arr4 fun j => .int .u64 (wd X j))).alloc _
 have hR : ((w.alloc (.cells #[vI vU (wd X 0),vI vU (wd X 1),vI vU (wd X 2),vI vU (wd X 3)] 25)).alloc (.cells #[vI vU 0,vI vU 0,vI vU 0,vI vU 0] 25)).rowIs (w.heap.size + 1) 25 4 (fun _ => .int .u64 0):=zad (n:=4) (by simp) rfl (arr4 fun _ => .int .u64 0)
 have hbel : Below w.heap.size w ((w.alloc (.cells #[vI vU (wd X 0),vI vU (wd X 1),vI vU (wd X 2),vI vU (wd X 3)] 25)).alloc (.cells #[vI vU 0,vI vU 0,vI vU 0,vI vU 0] 25)):=((Below.refl _ _).alloc (by simp) _).alloc (by simp) _
 have hFr : Fb ((w.alloc (.cells #[vI vU (wd X 0),vI vU (wd X 1),vI vU (wd X 2),vI vU (wd X 3)] 25)).alloc (.cells #[vI vU 0,vI vU 0,vI vU 0,vI vU 0] 25)) b M N Q:=((hF).alloc _).alloc _
 have hbs:=hF.lt
 clear hF
 go_enter Tryd.func74,Tryd.ntmps74
 go_wp2_with fail
 generalize ((w.alloc (.cells #[vI vU (wd X 0),vI vU (wd X 1),vI vU (wd X 2),vI vU (wd X 3)] 25)).alloc (.cells #[vI vU 0,vI vU 0,vI vU 0,vI vU 0] 25)) = w0 at *
 obtain ⟨a0,a1,a2,a3⟩:=zaf hA
 obtain ⟨m0,m1,m2,m3⟩:=hFr.mod
 go_region_with (go_at_call 36; refine (KC.out _).mono ?_; rintro e w1 ⟨rfl,hb1⟩; replace hA:=zaa (by exact hA) hb1 (by exact hA.lt); replace hR:=zaa (by exact hR) hb1 (by exact hR.lt); replace hFr:=Fb.below (by exact hFr) hb1 (by exact hFr.lt); replace hbel:=Below.trans (by first | exact hbel | exact hbel.drew) (hb1.mono (by exact hbel.size)))
 all_goals
  clear a0 a1 a2 a3 m0 m1 m2 m3 hb1
  obtain ⟨a0,a1,a2,a3⟩:=zaf hA
  obtain ⟨f0,f1,f2,f3⟩:=zaw hR
  obtain ⟨d0,d1,d2,d3⟩:=zaf hR
  go_wp2
  refine bodyPost_ret (results_cell_row rfl _ _ (w.heap.size + 1) 25 #[vI vU (wd X 0),vI vU (wd X 1),vI vU (wd X 2),vI vU (wd X 3)] (0,0) _ rfl (blk4 (put4 hR fun j => .int .u64 (wd (X) j))) Tryd.underlying25 rfl (by kernel_rfl)) rfl ⟨rfl,zap hbel (by omega) _ _ _ _⟩
theorem fcut_more (b X M : Nat) (N : Int) (Q P : Nat) (hX : X < top) (hK : Fok M N Q) (hP : X % M = P) (hl : ¬ X < M) (w : World) (hF : Fb w b M N Q) :
  Calls Tryd.prog 74 #[.pointer (some ⟨b,0,none⟩),.agg #[vI vU (wd X 0),vI vU (wd X 1),vI vU (wd X 2),vI vU (wd X 3)]] w fun e w' => e = .returned (.agg #[vI vU (wd P 0),vI vU (wd P 1),vI vU (wd P 2),vI vU (wd P 3)]) ∧ Below w.heap.size w w':=by
 obtain ⟨c,hc⟩ : ∃ c,c = cmpN X M:=⟨_,rfl⟩
 have hcn : 0 ≤ c:=by rw [hc,cmp_ge]; exact hl
 have KC:=veil (fun W => kcmp X M c hc.symm hX hK.mt W)
 have K1:=veil (fun W => wide_calls X hX W)
 have K2:=veil (fun W (h : Fb W b M N Q) => cutw_calls b X M N Q P (top_lt8 hX) hK hP W h)
 clear hc hl hX hP
 have hA : ((w.alloc (.cells #[vI vU (wd X 0),vI vU (wd X 1),vI vU (wd X 2),vI vU (wd X 3)] 25)).alloc (.cells #[vI vU 0,vI vU 0,vI vU 0,vI vU 0] 25)).rowIs w.heap.size 25 4 (fun j => .int .u64 (wd X j)):=(zad (n:=4) (by simp) rfl (arr4 fun j => .int .u64 (wd X j))).alloc _
 have hR : ((w.alloc (.cells #[vI vU (wd X 0),vI vU (wd X 1),vI vU (wd X 2),vI vU (wd X 3)] 25)).alloc (.cells #[vI vU 0,vI vU 0,vI vU 0,vI vU 0] 25)).rowIs (w.heap.size + 1) 25 4 (fun _ => .int .u64 0):=zad (n:=4) (by simp) rfl (arr4 fun _ => .int .u64 0)
 have hbel : Below w.heap.size w ((w.alloc (.cells #[vI vU (wd X 0),vI vU (wd X 1),vI vU (wd X 2),vI vU (wd X 3)] 25)).alloc (.cells #[vI vU 0,vI vU 0,vI vU 0,vI vU 0] 25)):=((Below.refl _ _).alloc (by simp) _).alloc (by simp) _
 have hFr : Fb ((w.alloc (.cells #[vI vU (wd X 0),vI vU (wd X 1),vI vU (wd X 2),vI vU (wd X 3)] 25)).alloc (.cells #[vI vU 0,vI vU 0,vI vU 0,vI vU 0] 25)) b M N Q:=((hF).alloc _).alloc _
 have hbs:=hF.lt
 clear hF
 go_enter Tryd.func74,Tryd.ntmps74
 go_wp2_with fail
 generalize ((w.alloc (.cells #[vI vU (wd X 0),vI vU (wd X 1),vI vU (wd X 2),vI vU (wd X 3)] 25)).alloc (.cells #[vI vU 0,vI vU 0,vI vU 0,vI vU 0] 25)) = w0 at *
 obtain ⟨a0,a1,a2,a3⟩:=zaf hA
 obtain ⟨m0,m1,m2,m3⟩:=hFr.mod
 go_region_with (go_at_call 36; refine (KC.out _).mono ?_; rintro e w1 ⟨rfl,hb1⟩; replace hA:=zaa (by exact hA) hb1 (by exact hA.lt); replace hR:=zaa (by exact hR) hb1 (by exact hR.lt); replace hFr:=Fb.below (by exact hFr) hb1 (by exact hFr.lt); replace hbel:=Below.trans (by first | exact hbel | exact hbel.drew) (hb1.mono (by exact hbel.size)))
 all_goals
  clear a0 a1 a2 a3 m0 m1 m2 m3 hb1
  obtain ⟨a0,a1,a2,a3⟩:=zaf hA
  go_wp2_with fail
  refine (K1.out _).mono ?_
  rintro e w2 ⟨rfl,hb2⟩
  replace hR:=zaa (by exact hR) hb2 (by exact hR.lt)
  replace hFr:=Fb.below (by exact hFr) hb2 (by exact hFr.lt)
  replace hbel:=Below.trans (by first | exact hbel | exact hbel.drew) (hb2.mono (by exact hbel.size))
  clear a0 a1 a2 a3 hA hb2
  go_wp2_with fail
  refine (K2.out _ hFr).mono ?_
  rintro e w3 ⟨rfl,hb3⟩
  replace hR:=zaa (by exact hR) hb3 (by exact hR.lt)
  replace hFr:=Fb.below (by exact hFr) hb3 (by exact hFr.lt)
  replace hbel:=Below.trans (by first | exact hbel | exact hbel.drew) (hb3.mono (by exact hbel.size))
  clear hb3 hFr
  obtain ⟨f0,f1,f2,f3⟩:=zaw hR
  obtain ⟨d0,d1,d2,d3⟩:=zaf hR
  go_wp2
  refine bodyPost_ret (results_cell_row rfl _ _ (w.heap.size + 1) 25 #[vI vU (wd P 0),vI vU (wd P 1),vI vU (wd P 2),vI vU (wd P 3)] (0,0) _ rfl (blk4 (put4 hR fun j => .int .u64 (wd (P) j))) Tryd.underlying25 rfl (by kernel_rfl)) rfl ⟨rfl,zap hbel (by omega) _ _ _ _⟩
theorem fcut_calls (b X M : Nat) (N : Int) (Q P : Nat) (hX : X < top) (hK : Fok M N Q) (hP : X % M = P) (w : World) (hF : Fb w b M N Q) :
  Calls Tryd.prog 74 #[.pointer (some ⟨b,0,none⟩),.agg #[vI vU (wd X 0),vI vU (wd X 1),vI vU (wd X 2),vI vU (wd X 3)]] w fun e w' => e = .returned (.agg #[vI vU (wd P 0),vI vU (wd P 1),vI vU (wd P 2),vI vU (wd P 3)]) ∧ Below w.heap.size w w':=by
 by_cases h : X < M
 ·
  exact fcut_less b X M N Q P hX hK hP h w hF
 ·
  exact fcut_more b X M N Q P hX hK hP h w hF
theorem fadd2_calls (b X Y M : Nat) (N : Int) (Q Z : Nat) (hX : X < top) (hY : Y < top) (hK : Fok M N Q) (hZ : (X % M + Y % M) % M = Z) (w : World) (hF : Fb w b M N Q) :
  Calls Tryd.prog 49 #[.pointer (some ⟨b,0,none⟩),.agg #[vI vU (wd X 0),vI vU (wd X 1),vI vU (wd X 2),vI vU (wd X 3)],.agg #[vI vU (wd Y 0),vI vU (wd Y 1),vI vU (wd Y 2),vI vU (wd Y 3)]] w fun e w' => e = .returned (.agg #[vI vU (wd Z 0),vI vU (wd Z 1),vI vU (wd Z 2),vI vU (wd Z 3)]) ∧ Below w.heap.size w w':=by
 have hM0 : 0 < M:=by have:=hK.m2; omega
 have hX2:=Nat.mod_lt X hM0
 have hY2:=Nat.mod_lt Y hM0
 have K3:=veil (fun W (h : Fb W b M N Q) => fadd_calls b (X % M) (Y % M) M N Q Z hX2 hY2 hK.mt hZ W h)
 have HK:=veil hK
 clear hK hZ hM0 hX2 hY2
 have hA : (((w.alloc (.cells #[vI vU (wd X 0),vI vU (wd X 1),vI vU (wd X 2),vI vU (wd X 3)] 25)).alloc (.cells #[vI vU (wd Y 0),vI vU (wd Y 1),vI vU (wd Y 2),vI vU (wd Y 3)] 25)).alloc (.cells #[vI vU 0,vI vU 0,vI vU 0,vI vU 0] 25)).rowIs w.heap.size 25 4 (fun j => .int .u64 (wd X j)):=((zad (n:=4) (by simp) rfl (arr4 fun j => .int .u64 (wd X j))).alloc _).alloc _
 have hB : (((w.alloc (.cells #[vI vU (wd X 0),vI vU (wd X 1),vI vU (wd X 2),vI vU (wd X 3)] 25)).alloc (.cells #[vI vU (wd Y 0),vI vU (wd Y 1),vI vU (wd Y 2),vI vU (wd Y 3)] 25)).alloc (.cells #[vI vU 0,vI vU 0,vI vU 0,vI vU 0] 25)).rowIs (w.heap.size + 1) 25 4 (fun j => .int .u64 (wd Y j)):=(zad (n:=4) (by simp) rfl (arr4 fun j => .int .u64 (wd Y j))).alloc _
 have hR : (((w.alloc (.cells #[vI vU (wd X 0),vI vU (wd X 1),vI vU (wd X 2),vI vU (wd X 3)] 25)).alloc (.cells #[vI vU (wd Y 0),vI vU (wd Y 1),vI vU (wd Y 2),vI vU (wd Y 3)] 25)).alloc (.cells #[vI vU 0,vI vU 0,vI vU 0,vI vU 0] 25)).rowIs (w.heap.size + 1 + 1) 25 4 (fun _ => .int .u64 0):=zad (n:=4) (by simp) rfl (arr4 fun _ => .int .u64 0)
 have hbel : Below w.heap.size w (((w.alloc (.cells #[vI vU (wd X 0),vI vU (wd X 1),vI vU (wd X 2),vI vU (wd X 3)] 25)).alloc (.cells #[vI vU (wd Y 0),vI vU (wd Y 1),vI vU (wd Y 2),vI vU (wd Y 3)] 25)).alloc (.cells #[vI vU 0,vI vU 0,vI vU 0,vI vU 0] 25)):=(((Below.refl _ _).alloc (by simp) _).alloc (by simp) _).alloc (by simp; omega) _
 have hFr : Fb (((w.alloc (.cells #[vI vU (wd X 0),vI vU (wd X 1),vI vU (wd X 2),vI vU (wd X 3)] 25)).alloc (.cells #[vI vU (wd Y 0),vI vU (wd Y 1),vI vU (wd Y 2),vI vU (wd Y 3)] 25)).alloc (.cells #[vI vU 0,vI vU 0,vI vU 0,vI vU 0] 25)) b M N Q:=(((hF).alloc _).alloc _).alloc _
 have hbs:=hF.lt
 clear hF
 go_enter Tryd.func49,Tryd.ntmps49
 go_wp2_with fail
 generalize (((w.alloc (.cells #[vI vU (wd X 0),vI vU (wd X 1),vI vU (wd X 2),vI vU (wd X 3)] 25)).alloc (.cells #[vI vU (wd Y 0),vI vU (wd Y 1),vI vU (wd Y 2),vI vU (wd Y 3)] 25)).alloc (.cells #[vI vU 0,vI vU 0,vI vU 0,vI vU 0] 25)) = w0 at *
 obtain ⟨a0,a1,a2,a3⟩:=zaf hA
 obtain ⟨b0,b1,b2,b3⟩:=zaf hB
 obtain ⟨f0,f1,f2,f3⟩:=zaw hR
 obtain ⟨d0,d1,d2,d3⟩:=zaf hR
 go_region_with (first
  | (go_at_call 74; refine (fcut_calls b _ M N Q _ (by assumption) HK.out rfl _ (by exact hFr)).mono ?_; rintro e w1 ⟨rfl,hb1⟩; replace hB:=zaa (by exact hB) hb1 (by exact hB.lt); replace hA:=zaa (by exact hA) hb1 (by exact hA.lt); replace hR:=zaa (by exact hR) hb1 (by exact hR.lt); replace hFr:=Fb.below (by exact hFr) hb1 (by exact hFr.lt); replace hbel:=Below.trans (by first | exact hbel | exact hbel.drew) (hb1.mono (by exact hbel.size)); obtain ⟨b0,b1,b2,b3⟩:=zaf hB; obtain ⟨a0,a1,a2,a3⟩:=zaf hA)
  | (go_at_call 64; refine (K3.out _ (by exact hFr)).mono ?_; rintro e w3 ⟨rfl,hb3⟩; replace hR:=zaa (by exact hR) hb3 (by exact hR.lt); replace hFr:=Fb.below (by exact hFr) hb3 (by exact hFr.lt); replace hbel:=Below.trans (by first | exact hbel | exact hbel.drew) (hb3.mono (by exact hbel.size)); obtain ⟨f0,f1,f2,f3⟩:=zaw hR; obtain ⟨d0,d1,d2,d3⟩:=zaf hR))
 all_goals
  clear a0 a1 a2 a3 b0 b1 b2 b3 f0 f1 f2 f3 d0 d1 d2 d3
  go_wp2
  refine bodyPost_ret (results_cell_row rfl _ _ (w.heap.size + 1 + 1) 25 #[vI vU (wd Z 0),vI vU (wd Z 1),vI vU (wd Z 2),vI vU (wd Z 3)] (0,0) _ rfl (blk4 (put4 hR fun j => .int .u64 (wd (Z) j))) Tryd.underlying25 rfl (by kernel_rfl)) rfl ⟨rfl,zap hbel (by omega) _ _ _ _⟩
theorem pN_is (w : World) : Calls Tryd.prog 37 #[] w fun e w' => e = .returned (nv Pt.nn) ∧ Ext w w':=by
 obtain ⟨l0,l1,l2,l3⟩:=nn_words
 unfold nv nc
 rw [l0,l1,l2,l3]
 clear l0 l1 l2 l3
 go_enter Tryd.func37,Tryd.ntmps37
 go_wp2
 exact bodyPost_ret (results_cell_row rfl _ _ w.heap.size 25 #[vI vU 17562291160714782033,vI vU 13611842547513532036,vI vU 18446744073709551615,vI vU 18446744069414584320] (0,0) _ rfl (heap_alloc_last w _) Tryd.underlying25 rfl (by kernel_rfl)) rfl ⟨rfl,(Below.refl _ _).alloc (Nat.le_refl _) _⟩
theorem nn_odd : Pt.nn % 2 = 1 ∧ 2 < Pt.nn:=by decide +kernel
theorem mul_base_near {D : Nat} (h : mayB D = true) : Pt.pFar (Pt.grp.mul D Pt.base).1 = false:=by
 cases hf : Pt.pFar (Pt.grp.mul D Pt.base).1 with
 | false => rfl
 | true =>
  have h1:=(Pt.inR_iff D).1 h
  exact absurd ((Pt.far_iff _).1 hf) (Pt.mul_near h1.1 h1.2 Pt.base_near)
/-! ### digests -/
def dgL (bs : List Nat) (j : Nat) : Nat:=dByte (shaSt (fun i => bs.getD i 0) bs.length) j
theorem dgL_lt (bs : List Nat) (j : Nat) : dgL bs j < 256:=Nat.mod_lt _ (by decide)
theorem src_bs {w : World} {A : Option Addr} {bs : List Nat} (h : Bs w A bs) : Src w A bs.length (fun j => bs.getD j 0) w.heap.size :=
 h.2.imp id fun ⟨b,o,e,hb,hc⟩ => ⟨b,o,e,hb,by omega,hc⟩
/-! ### signatures -/
theorem on_of {X Y : Nat} (h : onB X Y false = true) : Pt.E256.on (some (Pt.F X,Pt.F Y)):=by
 have h1:=(onB_iff X Y false).1 h
 unfold Pt.isOn at h1
 rw [if_neg (by decide)] at h1
 exact h1.2.2
def vfL (X Y : Nat) (f : Bool) (y : Nat → Nat) (R S : Nat) : Bool:=if h : onB X Y false = true then !f && Pt.verB ⟨_,on_of h⟩ (num32 y) R S else false
theorem vfL_off {X Y : Nat} {f : Bool} (h : onB X Y f = false) (y : Nat → Nat) (R S : Nat) : vfL X Y f y R S = false:=by
 unfold vfL
 split
 ·
  rename_i h1
  cases f with
  | true => rfl
  | false => rw [h] at h1; cases h1
 ·
  rfl
theorem vfL_on (p : Pt.Q) (y : Nat → Nat) (R S : Nat) : vfL (Pt.pX p.1) (Pt.pY p.1) (Pt.pFar p.1) y R S = Pt.verB p (num32 y) R S:=by
 have hon:=onB_of p
 cases hf : Pt.pFar p.1 with
 | true =>
  have e : Pt.verB p (num32 y) R S = false:=by unfold Pt.verB; rw [hf]; rfl
  rw [e]
  unfold vfL
  split <;> rfl
 | false =>
  rw [hf] at hon
  unfold vfL
  rw [dif_pos hon,Bool.not_false,Bool.true_and]
  congr 1
  apply Subtype.ext
  refine Pt.p_inj ?_ ?_ ?_
  ·
   exact Nat.mod_eq_of_lt (Pt.pX_lt p.1)
  ·
   exact Nat.mod_eq_of_lt (Pt.pY_lt p.1)
  ·
   rw [hf]; rfl
def pubL (D : Nat) : Nat × Nat:=(Pt.pX (Pt.grp.mul D Pt.base).1,Pt.pY (Pt.grp.mul D Pt.base).1)
theorem pub_q {D : Nat} (h : mayB D = true) : qv (pubL D).1 (pubL D).2 false = pv (Pt.grp.mul D Pt.base):=by
 unfold pv pubL
 rw [mul_base_near h]
def lowL : Low where
 dg:=dgL
 dgb:=dgL_lt
 vf:=vfL
structure CodeL : Prop where
 sum : ∀ A m c bs w,KT w → m = bs.length → m ≤ c → m ≤ 100000 → Bs w A bs → Calls Tryd.prog 12 #[.slice A m c] w fun e w' => e = .returned (dgv (dgL bs)) ∧ Ext w w'
 ver : ∀ X Y f y R S w,X < top → Y < top → R < top → S < top → (∀ j,y j < 256) → Calls Tryd.prog 8 #[qv X Y f,dgv y,gv R S] w fun e w' => e = .returned (.bool (vfL X Y f y R S)) ∧ Ext w w'
 on : ∀ D w,mayB D = true → Calls Tryd.prog 16 #[qv (pubL D).1 (pubL D).2 false] w fun e w' => e = .returned (.bool true) ∧ Ext w w'
 parse_odd : ∀ A m c w,m ≠ 64 → Calls Tryd.prog 11 #[.slice A m c] w fun e w' => e = .returned (.tuple #[gv 0 0,.iface 44 (.int .i64 2)]) ∧ Ext w w'
 parse_64 : ∀ A m c bs w,m = bs.length → m = 64 → m ≤ c → Bs w A bs → Calls Tryd.prog 11 #[.slice A m c] w fun e w' => e = .returned (.tuple #[gv (sigR bs) (sigS bs),.nilIface]) ∧ Ext w w'
end Go.Proofs.YtihophdbkjhopaaDoor
namespace Go.Proofs.YtihophdbkjhopaaDoor
open Go.ChangeShapes Go.WideShapes Go.ChangeAt Go.RowKit
open Go.Value renaming int → vI
open Go.IntKind renaming u64 → vU
open Go.Act renaming put → aP
open List renaming setIfInBounds_toArray → lA, set_cons_zero → lZ, set_cons_succ → lS
theorem zfr (C : Code17 lowL KT) (os : Os) (started : os.Started) (H : Type) (enc : TypeId × Value → H) :
  ReturnsInHanded {} Tryd.checked os 3 .any (fun w args => (Rows.recordLinksSpec.pre enc Tryd.prog Tryd.f3 [] false w args ∧ laidMetH Tryd.prog Rows.recordLinksRow.laid w) ∧ sizedMet enc Tryd.prog Tryd.f3 (OpenSpec.ofChange Rows.recordLinksSpec) false w args)
   (Rows.recordLinksSpec.post enc Tryd.prog Tryd.f3 false true false false):=by
 refine returnsInHanded_of_change_and (C:=Tryd.checked) (X:=fun w _ => laidMetH Tryd.prog Rows.recordLinksRow.laid w) (fun _ _ _ hh h => h.of_heap hh) ownT started (by kernel_rfl) Tryd.func3
  (ChangeSpec.witness_shaped (enc:=enc) (C:=Tryd.checked) (os:=os) (X:=fun w _ => laidMetH Tryd.prog Rows.recordLinksRow.laid w) false (World.doorLaid Tryd.prog 14 os) #[.slice none 0 0,.int .i64 0,.agg #[vI vU 0,vI vU 0,vI vU 0,vI vU 0,vI vU 0,vI vU 0,vI vU 0,vI vU 0,.bool false],.int .i64 0] 8 rfl (World.shaped_of_RefB (by kernel_rfl) (by kernel_rfl)) (by kernel_rfl) (by kernel_rfl) (by kernel_rfl) (door_met os _)) ?_
 intro W base args ds gs before hval0 hW _ _ hL _
 have hval : ∀ (j : Nat) t v,Tryd.f3.params[j]? = some t → args[j]? = some v → Value.okWide Tryd.prog W .any base t v:=hval0
 have hW':=hW
 obtain ⟨p,q,hA0,hV,rfl,_,_⟩:=hW
 have hA : DataW.TrodAll enc Tryd.prog W 0 (fun _ => true) true Tryd.f3.params.toList args.toList ds p:=hA0
 rw [Tryd.params3] at hA hval
 obtain ⟨v0,v1,v2,v3,d0,d1,d2,d3,p0,p1,p2,p3,rfl,rfl,rfl,h0,h1,h2,h3⟩:=trodAll_four hA
 obtain ⟨rfl,rfl⟩:=trodVars_none hV
 have h0k:=h0
 obtain ⟨fuel0,hf0⟩:=h0
 obtain ⟨a0,len0,cap0,rfl⟩:=okWide_slice Tryd.underlying22 (hval 0 22 v0 rfl rfl)
 have h1k:=h1
 have h2k:=h2
 have h3k:=h3
 clear hA0 hval0
 simp only [List.append_nil] at hW'
 have hlt0 : ∀ x ∈ p0,x.block < W.heap.size:=fun x hx => by simpa using hW'.lt x (by simp [hx])
 obtain ⟨l0,hF0,hL0⟩:=tx_of17 (v:=.slice a0 len0 cap0) (by simpa [Value.cells] using hf0)
 have hlt1 : ∀ x ∈ p1,x.block < W.heap.size:=fun x hx => by simpa using hW'.lt x (by simp [hx])
 obtain ⟨z1,rfl,_,_,w1⟩:=open_int Tryd.underlying3 (hval 1 3 v1 rfl rfl) h1
 obtain ⟨lo1,hi1⟩:=bounds_i64 w1
 have hlt2 : ∀ x ∈ p2,x.block < W.heap.size:=fun x hx => by simpa using hW'.lt x (by simp [hx])
 obtain ⟨X2,Y2,f2,lX2,lY2,rfl,_,_⟩:=open_point (hval 2 27 v2 rfl rfl) h2
 have hlt3 : ∀ x ∈ p3,x.block < W.heap.size:=fun x hx => by simpa using hW'.lt x (by simp [hx])
 obtain ⟨z3,rfl,_,_,w3⟩:=open_int Tryd.underlying3 (hval 3 3 v3 rfl rfl) h3
 obtain ⟨lo3,hi3⟩:=bounds_i64 w3
 refine (links17_walk C _ l0 z1 X2 Y2 f2 z3 lX2 lY2 W (kt_of_laid hL) hF0 hL0).mono fun e W' ⟨he,hb⟩ => ?_
 subst he
 exact ⟨_,rfl,_,_,_,[],_,[],hW',trodAll_mk1 (shut_bool Tryd.underlying4 true),by
  have h2:=trodAll_mk4 (Below.trod laidOutT (by kernel_rfl) (of_decide_eq_true (by kernel_rfl)) h0k hb hlt0) (Below.trod laidOutT (by kernel_rfl) (of_decide_eq_true (by kernel_rfl)) h1k hb hlt1) (Below.trod laidOutT (by kernel_rfl) (of_decide_eq_true (by kernel_rfl)) h2k hb hlt2) (Below.trod laidOutT (by kernel_rfl) (of_decide_eq_true (by kernel_rfl)) h3k hb hlt3)
  try simp only [List.append_nil] at h2
  exact h2,rfl,hb.frame _,fun h => by cases h⟩
theorem RecordLinks_over (C : Code17 lowL KT) : Rows.recordLinksRow.holds Tryd.pinned (OpenSpec.ofChange Rows.recordLinksSpec) :=
 OpenClaim.holds_of_wide 3 Tryd.f3 rfl rfl rfl rfl rfl rfl rfl ⟨rfl,rfl,rfl,rfl,rfl⟩ rfl rfl rfl rfl rfl (by kernel_rfl) Tryd.func3 (by kernel_rfl)
  (of_decide_eq_true (by kernel_rfl)) (by unfold Func.isWrapper; rw [if_neg (of_decide_eq_false (by kernel_rfl))]; exact ⟨rfl,rfl⟩)
  (fun os started H enc _ => zfr C os started H enc)
theorem RecordLinks_of (C : Code17 lowL KT) : Rows.RecordLinksCardSaid :=
 Claim7.holds_tied_plain_at .later [] [.data] true _ true
  (RecordLinks_over C) (fun _ h => by cases h) (by kernel_rfl) (fun _ h => by cases h) recordLinks_row_tie rfl ⟨rfl,rfl⟩ (by kernel_rfl) rfl
  (fun f fn hf hfn => by
   obtain rfl : f = 3:=Option.some.inj ((show Tryd.prog.funcNamed "clapper/clapperlaw17.RecordLinks" = some 3 by kernel_rfl).symm.trans hf) |>.symm
   obtain rfl : fn = Tryd.f3:=(Option.some.inj (Tryd.func3.symm.trans hfn)).symm
   exact ⟨by kernel_rfl,fun j t ht => by
    rw [Tryd.params3] at ht
    have hm : t ∈ [22,3,27,3]:=by simpa using Array.mem_of_getElem? ht
    have hall : ([22,3,27,3].all fun u => !Tryd.prog.wantsStandIn u) = true:=by kernel_rfl
    exact (show Tryd.prog.wantsStandIn t = false by simpa using List.all_eq_true.1 hall t hm)⟩)
  (by kernel_rfl)
end Go.Proofs.YtihophdbkjhopaaDoor
namespace Go.Proofs.YtihophdbkjhopaaDoor
open Go.RowKit
open Go.Value renaming int → vI
open Go.IntKind renaming u64 → vU
open Go.Act renaming put → aP
open List renaming setIfInBounds_toArray → lA, set_cons_zero → lZ, set_cons_succ → lS
theorem texts_len {bs : List Nat} {many : Nat} {l : List (List Nat)} (h : textsB bs many = some l) {i : Nat} (hi : i < l.length) : (l.getD i []).length ≤ 65535:=by
 unfold textsB at h
 cases hg : getFs bs with
 | none => rw [hg] at h; cases h
 | some fs =>
  rw [hg] at h
  simp only at h
  split at h
  ·
   injection h with h
   subst h
   rw [zbf] at hi
   rw [zau]
   exact (mayFs_ok (zgd hg).2 hi).2.2.1
  ·
   cases h
theorem texts_parts {bs : List Nat} {l : List (List Nat)} (h : textsB bs 2 = some l) : partsB bs = if (l.getD 1 []).length = 64 then some (l.getD 0 [],sigR (l.getD 1 []),sigS (l.getD 1 [])) else none:=by
 unfold textsB at h
 unfold partsB
 cases hg : getFs bs with
 | none => rw [hg] at h; cases h
 | some fs =>
  rw [hg] at h
  simp only at h ⊢
  split at h
  ·
   rename_i hk
   injection h with h
   subst h
   simp only [zau]
   by_cases hq : (bsF fs 1).length = 64
   ·
    rw [if_pos hq,if_pos]
    exact ⟨hk.1,hk.2 0 (by decide),hk.2 1 (by decide),hq⟩
   ·
    rw [if_neg hq,if_neg]
    exact fun hn => hq hn.2.2.2
  ·
   cases h
theorem texts_parts_none {bs : List Nat} (h : textsB bs 2 = none) : partsB bs = none:=by
 unfold textsB at h
 unfold partsB
 cases hg : getFs bs with
 | none => rfl
 | some fs =>
  rw [hg] at h
  simp only at h ⊢
  split at h
  ·
   cases h
  ·
   rename_i hn
   rw [if_neg]
   refine fun hk => hn ⟨hk.1,fun i hi => ?_⟩
   match i,hi with
   | 0,_ => exact hk.2.1
   | 1,_ => exact hk.2.2.1
def RvN (n : Nat) (w : World) (X : Array Value) (r : Rc) : Prop:=WfC r ∧ ∃ A c,X = rcC r (.slice A r.bs.length c) ∧ r.bs.length ≤ c ∧ Bs w A r.bs ∧ NewB n A r.bs
theorem RvN.rv {n : Nat} {w : World} {X : Array Value} {r : Rc} (h : RvN n w X r) : Rv17 w X r:=by
 obtain ⟨h0,A,c,e,hc,hB,_⟩:=h
 exact ⟨h0,A,c,e,hc,hB⟩
theorem RvN.ext {n : Nat} {w w' : World} {X : Array Value} {r : Rc} (h : RvN n w X r) (k : Ext w w') : RvN n w' X r:=by
 obtain ⟨h0,A,c,e,hc,hB,hN⟩:=h
 exact ⟨h0,A,c,e,hc,hB.ext k,hN⟩
theorem NewB.le {n m : Nat} {A : Option Addr} {bs : List Nat} (h : NewB n A bs) (k : m ≤ n) : NewB m A bs:=h.imp id fun h b o e => Nat.le_trans k (h b o e)
theorem RvN.le {n m : Nat} {w : World} {X : Array Value} {r : Rc} (h : RvN n w X r) (k : m ≤ n) : RvN m w X r:=by
 obtain ⟨h0,A,c,e,hc,hB,hN⟩:=h
 exact ⟨h0,A,c,e,hc,hB,hN.le k⟩
theorem NewB.row {n k : Nat} {A : Option Addr} {bs : List Nat} {W : World} (h : NewB n A bs) (hb : Bs W A bs) (hk : k < n) (c : Array Value) : Bs (W.setRow k c) A bs:=by
 refine ⟨hb.1,?_⟩
 rcases h with h0 | h
 ·
  exact .inl h0
 ·
  refine hb.2.imp id ?_
  rintro ⟨b,o,e,hbl,hc⟩
  have hne : b ≠ k:=by have:=h b o e; omega
  refine ⟨b,o,e,by simpa [World.setRow] using hbl,fun j hj => ?_⟩
  have h1 : (W.setRow k c).cell? ⟨b,o + j,none⟩ = W.cell? ⟨b,o + j,none⟩:=World.cell?_of_block (w:=W) (zaj W c hne)
  exact h1.trans (hc j hj)
theorem RvN.row {n k : Nat} {W : World} {X : Array Value} {r : Rc} (h : RvN n W X r) (hk : k < n) (c : Array Value) : RvN n (W.setRow k c) X r:=by
 obtain ⟨h0,A,c',e,hc,hB,hN⟩:=h
 exact ⟨h0,A,c',e,hc,hN.row hB hk c,hN⟩
def OBodyA17 (n : Nat) (w' : World) (bs : List Nat) (X : Array Value) (ev : Value) : Prop :=
 (unB bs = none ∧ X = RZ ∧ ev = .iface 44 (.int .i64 2)) ∨ (∃ r,unB bs = some r ∧ RvN n w' X r ∧ ev = .nilIface)
def rcT (l : List (List Nat)) : Rc:=⟨ofB (l.getD 0 []),ofB (l.getD 1 []),ofB (l.getD 2 []),ofB (l.getD 3 []),ofB (l.getD 4 []),ofB (l.getD 5 []),ofB (l.getD 6 []),ofB (l.getD 7 []),l.getD 8 [],l.getD 9 []⟩
theorem un_texts_none {bs : List Nat} (h : textsB bs 10 = none) : unB bs = none:=by
 unfold textsB at h
 unfold unB
 cases hg : getFs bs with
 | none => rfl
 | some fs =>
  rw [hg] at h
  simp only at h ⊢
  split at h
  ·
   cases h
  ·
   rename_i hn
   rw [if_neg]
   exact fun hk => hn ⟨hk.1.1,hk.1.2.1⟩
theorem un_yes {bs : List Nat} {l : List (List Nat)} (h : textsB bs 10 = some l) (h1 : ∀ i,i < 8 → 0 ≤ ofB (l.getD i [])) (h2 : (l.getD 8 []).length = 32) (h3 : mayC (rcT l) = true) : unB bs = some (rcT l):=by
 unfold textsB at h
 unfold unB
 cases hg : getFs bs with
 | none => rw [hg] at h; cases h
 | some fs =>
  rw [hg] at h
  simp only at h ⊢
  split at h
  ·
   rename_i hk
   injection h with h
   subst h
   have e : rcT (textsOf fs) = rcOf fs:=by
    unfold rcT rcOf
    simp only [zau]
   rw [e] at h3 ⊢
   rw [zau] at h2
   rw [if_pos]
   exact ⟨⟨hk.1,hk.2,fun i hi => by have:=h1 i hi; rwa [zau] at this,h2⟩,h3⟩
  ·
   cases h
theorem un_no {bs : List Nat} {l : List (List Nat)} (h : textsB bs 10 = some l) (hn : (∀ i,i < 8 → 0 ≤ ofB (l.getD i [])) → (l.getD 8 []).length = 32 → mayC (rcT l) = true → False) : unB bs = none:=by
 unfold textsB at h
 unfold unB
 cases hg : getFs bs with
 | none => rfl
 | some fs =>
  rw [hg] at h
  simp only at h ⊢
  split at h
  ·
   injection h with h
   subst h
   have e : rcT (textsOf fs) = rcOf fs:=by
    unfold rcT rcOf
    simp only [zau]
   rw [if_neg]
   intro hk
   refine hn (fun i hi => ?_) ?_ ?_
   ·
    rw [zau]; exact hk.1.2.2.1 i hi
   ·
    rw [zau]; exact hk.1.2.2.2
   ·
    rw [e]; exact hk.2
  ·
   cases h
theorem row_eight {w : World} {g t : Nat} {f : Nat → Value} (h : w.rowIs g t 8 f) : w.cell? ⟨g,0,none⟩ = some (f 0) ∧ w.cell? ⟨g,1,none⟩ = some (f 1) ∧ w.cell? ⟨g,2,none⟩ = some (f 2) ∧ w.cell? ⟨g,3,none⟩ = some (f 3) ∧ w.cell? ⟨g,4,none⟩ = some (f 4) ∧ w.cell? ⟨g,5,none⟩ = some (f 5) ∧ w.cell? ⟨g,6,none⟩ = some (f 6) ∧ w.cell? ⟨g,7,none⟩ = some (f 7) :=
 ⟨h.cell (by omega),h.cell (by omega),h.cell (by omega),h.cell (by omega),h.cell (by omega),h.cell (by omega),h.cell (by omega),h.cell (by omega)⟩
theorem info1R : (Tryd.prog.info? 5).map (·.size) = some 1:=by kernel_rfl
theorem openBody17_calls (A : Option Addr) (m c : Nat) (bs : List Nat) (hm : m = bs.length) (hmc : m ≤ c) (hle : m ≤ 100000000) (w : World) (hS : Bs w A bs) :
  Calls Tryd.prog 10 #[.slice A m c] w fun e w' => ∃ X ev,e = .returned (.tuple #[.agg X,ev]) ∧ Ext w w' ∧ OBodyA17 w.heap.size w' bs X ev:=by
 have KG:=veil (fun W (hW : Bs W A bs) => cget_calls A m c bs 10 hm hmc hle (by decide) W hW)
 have k2:=neNil2
 have k3:=neNilN
 have HB:=veil hS
 clear hm hmc hS hle
 go_enter Tryd.func10,Tryd.ntmps10
 go_upto_region 1 with (fail)
 obtain ⟨g2,hg2⟩ : ∃ g,g = w.heap.size:=⟨_,rfl⟩
 obtain ⟨w0,hw0⟩ : ∃ W,W = w.alloc (.cells RZ 35):=⟨_,rfl⟩
 have h2:=zae w (.cells RZ 35)
 have hE0:=Ext.alloc w (.cells RZ 35)
 have hs0 : w0.heap.size = g2 + 1:=by rw [hw0,hg2]; simp
 rw [← hw0] at hE0
 rw [← hw0,← hg2] at h2
 have H0:=veil (And.intro hE0 (And.intro h2 (show w.heap.size ≤ g2 by omega)))
 have HZ:=veil hs0
 unfold RZ at hw0
 rw [← hw0,← hg2]
 clear hw0 hg2 h2 hE0 hs0
 go_upto_region 2 with (go_at_call 9; refine (KG.out w0 (HB.out.ext H0.out.1)).mono ?_; rintro e w1 ⟨x,ev,rfl,hE1,hA⟩)
 have H1:=veil (And.intro (H0.out.1.trans hE1) (And.intro (hE1.block H0.out.2.1) H0.out.2.2))
 clear hE1 H0 KG
 rcases hA with ⟨hn,⟨A2,c2,rfl⟩,rfl⟩ | ⟨l,hs,hl5,hV,rfl⟩
 ·
  have hr:=un_texts_none hn
  clear hn
  go_wp2_with ((with_reducible refine zag ?_); refine wpList_store_row rfl 35 _ _ rfl g2 RZ rfl rfl 35 _ H1.out.2.1 iRZ rfl zcx ?_)
  refine bodyPost_ret (zbt rfl _ _ g2 35 RZ (0,0) _ rfl (setRow_heap w1 g2 _ RZ 35 (0,0) H1.out.2.1) Tryd.underlying35 rfl iRZ) rfl ⟨_,_,rfl,zas H1.out.1 H1.out.2.2 _,.inl ⟨hr,rfl,rfl⟩⟩
 ·
  have hlen9:=texts_len hs (i:=9) (by omega)
  have HT9:=veil hlen9
  clear hlen9
  obtain ⟨_,AL,cl,rfl,hcl,hx⟩:=hV
  obtain ⟨n,hn⟩ : ∃ n,n = l.length:=⟨_,rfl⟩
  rw [← hn] at hx hcl hl5 ⊢
  subst hl5
  rw [HZ.out] at hx
  have HX:=veil (And.intro (hx.resolve_left (by decide)) (And.intro hn hs))
  have hr6 : (w1.alloc (.cells #[.int .i64 0,.int .i64 0,.int .i64 0,.int .i64 0,.int .i64 0,.int .i64 0,.int .i64 0,.int .i64 0] 54)).rowIs w1.heap.size 54 8 (fun _ => .int .i64 0):=World.rowIs_alloc w1 _ _ _ (fun i hi => by
   have hi : i < 8:=hi
   match i,hi with
   | 0,_ | 1,_ | 2,_ | 3,_ | 4,_ | 5,_ | 6,_ | 7,_ => rfl)
  have hE2:=Ext.alloc w1 (.cells #[.int .i64 0,.int .i64 0,.int .i64 0,.int .i64 0,.int .i64 0,.int .i64 0,.int .i64 0,.int .i64 0] 54)
  have H2:=veil (And.intro hr6 hE2)
  clear hs hx hn hcl hr6 hE2
  go_upto_region 5 with (fail)
  obtain ⟨g,hg⟩ : ∃ g,g = w1.heap.size:=⟨_,rfl⟩
  generalize w1.alloc (.cells #[.int .i64 0,.int .i64 0,.int .i64 0,.int .i64 0,.int .i64 0,.int .i64 0,.int .i64 0,.int .i64 0] 54) = w2 at *
  rw [← hg] at H2 ⊢
  have HG:=veil (show w1.heap.size ≤ g by omega)
  clear hg
  go_wp2
  go_loopw [5,7,20] (fun s _ v wr => ∃ i : Nat,i ≤ 8 ∧ s = .nilIface ∧ v = .int .i64 (i : Int) ∧ wr.rowIs g 54 8 (fun j => if j < i then .int .i64 (ofB (l.getD j [])) else .int .i64 0) ∧ (∀ j,j < i → 0 ≤ ofB (l.getD j [])) ∧ Ext w1 wr)
   (fun _ _ v _ => 8 - (intOf v).toNat)
  case atStart => exact ⟨0,by omega,rfl,rfl,H2.out.1.congr (fun j hj => by rw [if_neg (by omega)]),fun j hj => by omega,H2.out.2⟩
  case round =>
   obtain ⟨i,hi,rfl,rfl,hp,hall,hE⟩:=hrel
   by_cases hlt : i < 8
   ·
    have hii : (i : Int) < 8:=by omega
    have hi10 : (i : Int) < 10:=by omega
    obtain ⟨b,o,hAL,hb,_,hcl⟩:=HX.out.1
    obtain ⟨A',k',h1,h3,h4,_⟩:=hcl i (by have:=HX.out.2.1; omega)
    have c0:=(hE.cell hb).trans h1
    have hB:=h4.ext hE
    obtain ⟨L,hL⟩ : ∃ L,L = (l.getD i []).length:=⟨_,rfl⟩
    obtain ⟨N,hN⟩ : ∃ N,N = ofB (l.getD i []):=⟨_,rfl⟩
    rw [← hL] at c0 h3
    subst hAL
    by_cases gN : 0 ≤ N
    ·
     have KO:=veil (of_yes hL h3 hB (by rw [← hN]; exact gN))
     rw [← hN] at KO
     have HS:=veil (And.intro hp (And.intro hall (And.intro hE (And.intro hN gN))))
     clear h1 h3 h4 hB hp hall hE hcl hL hN gN
     go_upto_region 9 with (go_at_call 25; refine KO.out.mono ?_; rintro e w3 ⟨rfl,hE3⟩; have hp3:=veil (zaa HS.out.1 hE3 HS.out.1.lt); have c2:=hp3.out.cell hlt; have f2:=hp3.out.frozen i)
     clear c0 c2 f2
     go_wp2
     go_roundw
     case rel =>
      refine ⟨i + 1,by omega,rfl,by go_num,(hp3.out.set i _).congr (fun j hj => ?_),fun j hj => ?_,zab (HS.out.2.2.1.trans hE3) HG.out _⟩
      ·
       by_cases e : j = i
       ·
        subst e
        rw [if_pos rfl,if_pos (by omega),HS.out.2.2.2.1]
       ·
        rw [if_neg e]
        by_cases e2 : j < i
        ·
         rw [if_pos e2,if_pos (by omega)]
        ·
         rw [if_neg e2,if_neg (by omega)]
      ·
       by_cases e : j = i
       ·
        subst e
        rw [← HS.out.2.2.2.1]
        exact HS.out.2.2.2.2
       ·
        exact HS.out.2.1 j (by omega)
     case measure => simp [intOf]; omega
    ·
     have KO:=veil (of_no hL h3 hB (by rw [← hN]; omega))
     have hr : unB bs = none:=un_no HX.out.2.2 fun h _ _ => by
      have:=h i hlt
      omega
     have HS:=veil (And.intro hp (And.intro hr hE))
     clear h1 h3 h4 hB hp hall hE hcl hL hN gN hr
     go_upto_region 9 with (go_at_call 25; refine KO.out.mono ?_; rintro e w3 ⟨rfl,hE3⟩; have hp3:=veil (zaa HS.out.1 hE3 HS.out.1.lt); have c2:=hp3.out.cell hlt; have f2:=hp3.out.frozen i)
     have hE4 : Ext w1 (w3.setCell ⟨g,i,none⟩ (.int .i64 0)):=zab (HS.out.2.2.trans hE3) HG.out _
     clear c0 c2 f2
     generalize w3.setCell ⟨g,i,none⟩ (.int .i64 0) = w4 at *
     have H4:=veil (And.intro (H1.out.1.trans hE4) (hE4.block H1.out.2.1))
     clear hE4
     go_wp2_with ((with_reducible refine zag ?_); refine wpList_store_row rfl 35 _ _ rfl g2 RZ rfl rfl 35 _ H4.out.2 iRZ rfl zcx ?_)
     refine bodyPost_ret (zbt rfl _ _ g2 35 RZ (0,0) _ rfl (setRow_heap w4 g2 _ RZ 35 (0,0) H4.out.2) Tryd.underlying35 rfl iRZ) rfl ⟨_,_,rfl,zas H4.out.1 H1.out.2.2 _,.inl ⟨HS.out.2.1,rfl,rfl⟩⟩
   ·
    obtain rfl : i = 8:=by omega
    have hd1 : decide (((8 : Nat) : Int) < 8) = false:=by decide
    obtain ⟨b,o,hAL,hb,_,hcl⟩:=HX.out.1
    obtain ⟨A8,k8,h8,h8c,hB8,_⟩:=hcl 8 (by have:=HX.out.2.1; omega)
    obtain ⟨A9,k9,h9,h9c,hB9,hN9⟩:=hcl 9 (by have:=HX.out.2.1; omega)
    have c8:=(hE.cell hb).trans h8
    have c9:=(hE.cell hb).trans h9
    have hyes:=fun h1 h2 => un_yes HX.out.2.2 hall h1 h2
    have hno1 : ¬ (l.getD 8 []).length = 32 → unB bs = none:=fun h1 => un_no HX.out.2.2 fun _ h _ => h1 h
    have hno2 : mayC (rcT l) = false → unB bs = none:=fun h1 => un_no HX.out.2.2 fun _ _ h => by rw [h1] at h; cases h
    have h9l:=HT9.out
    have hrT : rcT l = ⟨ofB (l.getD 0 []),ofB (l.getD 1 []),ofB (l.getD 2 []),ofB (l.getD 3 []),ofB (l.getD 4 []),ofB (l.getD 5 []),ofB (l.getD 6 []),ofB (l.getD 7 []),l.getD 8 [],l.getD 9 []⟩:=rfl
    obtain ⟨c0,c1,c2,c3,c4,c5,c6,c7⟩:=row_eight hp
    rw [if_pos (by decide)] at c0 c1 c2 c3 c4 c5 c6 c7
    obtain ⟨x8,hx8⟩ : ∃ x,x = l.getD 8 []:=⟨_,rfl⟩
    obtain ⟨x9,hx9⟩ : ∃ x,x = l.getD 9 []:=⟨_,rfl⟩
    obtain ⟨N0,hN0⟩ : ∃ N,N = ofB (l.getD 0 []):=⟨_,rfl⟩
    obtain ⟨N1,hN1⟩ : ∃ N,N = ofB (l.getD 1 []):=⟨_,rfl⟩
    obtain ⟨N2,hN2⟩ : ∃ N,N = ofB (l.getD 2 []):=⟨_,rfl⟩
    obtain ⟨N3,hN3⟩ : ∃ N,N = ofB (l.getD 3 []):=⟨_,rfl⟩
    obtain ⟨N4,hN4⟩ : ∃ N,N = ofB (l.getD 4 []):=⟨_,rfl⟩
    obtain ⟨N5,hN5⟩ : ∃ N,N = ofB (l.getD 5 []):=⟨_,rfl⟩
    obtain ⟨N6,hN6⟩ : ∃ N,N = ofB (l.getD 6 []):=⟨_,rfl⟩
    obtain ⟨N7,hN7⟩ : ∃ N,N = ofB (l.getD 7 []):=⟨_,rfl⟩
    rw [← hN0,← hN1,← hN2,← hN3,← hN4,← hN5,← hN6,← hN7,← hx8,← hx9] at hrT
    rw [← hN0] at c0
    rw [← hN1] at c1
    rw [← hN2] at c2
    rw [← hN3] at c3
    rw [← hN4] at c4
    rw [← hN5] at c5
    rw [← hN6] at c6
    rw [← hN7] at c7
    rw [← hx8] at c8 h8c hB8 hyes hno1
    rw [← hx9] at c9 h9c hB9 hN9 h9l
    rw [hrT] at hyes hno2
    obtain ⟨L8,hL8⟩ : ∃ L,L = x8.length:=⟨_,rfl⟩
    obtain ⟨L9,hL9⟩ : ∃ L,L = x9.length:=⟨_,rfl⟩
    rw [← hL8] at c8 h8c hyes hno1
    rw [← hL9] at c9 h9c
    have HR:=veil (And.intro (And.intro hyes (And.intro hno1 hno2)) (And.intro h9l (And.intro hL8 hL9)))
    have HE:=veil (And.intro hE (And.intro hB8 (And.intro hB9 (And.intro hN9 h9c))))
    clear hN0 hN1 hN2 hN3 hN4 hN5 hN6 hN7 hE hyes hno1 hno2 h9l hall hp hcl h8 h9 hx8 hx9 hrT hL8 hL9 hB8 hB9 hN9 h8c h9c
    subst hAL
    go_upto_region 12 with (fail)
    refine wp_sched 8 [(true,[0,1,2,3,4,5,6,7])] (by kernel_rfl) (by kernel_rfl) fun Q' hQ' => ?_
    refine' zdj (A:=_) _ rfl (by kernel_rfl) ?_ ?_
    rotate_left
    ·
     intro D hD hN'
     have e8:=hD.cell c8
     have e9:=hD.cell c9
     simp only [pickI,consO,List.getElem?_cons_zero,List.getElem?_cons_succ]
     repeat (go_big_quiet_step (fail))
     exact zeq
    refine sched_end hQ' fun w3 hE3 => ?_
    have hcell:=fun (k : Nat) (v : Value) (h : wr.cell? ⟨g,k,none⟩ = some v) => (hE3.cell (World.block_lt_of_cell? wr ⟨g,k,none⟩ h)).trans h
    replace c0:=hcell _ _ c0
    replace c1:=hcell _ _ c1
    replace c2:=hcell _ _ c2
    replace c3:=hcell _ _ c3
    replace c4:=hcell _ _ c4
    replace c5:=hcell _ _ c5
    replace c6:=hcell _ _ c6
    replace c7:=hcell _ _ c7
    have H3:=veil (HE.out.1.trans hE3)
    clear hcell c8 c9 hE3
    go_upto_region 14 with ((with_reducible refine zag ?_); refine wpList_store_row rfl 35 _ _ rfl w3.heap.size (rcC ⟨N0,N1,N2,N3,N4,N5,N6,N7,nilD,x9⟩ (.slice A9 L9 k9)) rfl rfl 35 _ (zae w3 _) (iRc _ _) rfl (rcC_one _) ?_; rw [World.setRow_alloc_new])
    have hbk:=zae w3 (.cells (rcC ⟨N0,N1,N2,N3,N4,N5,N6,N7,nilD,x9⟩ (.slice A9 L9 k9)) 35)
    have hAl:=Ext.alloc w3 (.cells (rcC ⟨N0,N1,N2,N3,N4,N5,N6,N7,nilD,x9⟩ (.slice A9 L9 k9)) 35)
    obtain ⟨X0,hX0⟩ : ∃ X,X = rcC ⟨N0,N1,N2,N3,N4,N5,N6,N7,nilD,x9⟩ (.slice A9 L9 k9):=⟨_,rfl⟩
    rw [← hX0] at hbk hAl ⊢
    obtain ⟨g10,hg10⟩ : ∃ g,g = w3.heap.size:=⟨_,rfl⟩
    generalize w3.alloc (.cells X0 35) = w4 at *
    rw [← hg10] at hbk ⊢
    have hlo : w1.heap.size ≤ g10:=by rw [hg10]; exact Below.size H3.out
    have h41 : X0.size = 41:=by rw [hX0]; rfl
    have hR0 : w4.rowIs g10 35 41 (cpF X0 x8 0):=⟨X0,hbk,h41,fun j hj => cp_zero (by omega)⟩
    have H4:=veil (And.intro (H3.out.trans hAl) (And.intro hR0 (And.intro hlo hX0)))
    clear hbk hAl hX0 hg10 hlo h41 hR0 c0 c1 c2 c3 c4 c5 c6 c7
    by_cases h32 : L8 = 32
    ·
     subst h32
     obtain ⟨b8,o8,hA8,hb8,_⟩:=HE.out.2.1.cell (j:=0) (by have:=HR.out.2.2.1; omega)
     subst hA8
     have hsrc : ∀ j,j < 32 → w4.cell? ((⟨b8,o8,none⟩ : Addr).add j) = some (.int .u8 (x8.getD j 0 : Nat)):=fun j hj => by
      obtain ⟨b',o',e',hb',hc'⟩:=HE.out.2.1.cell (j:=j) (by have:=HR.out.2.2.1; omega)
      injection e' with e'
      injection e' with e1 e2 _
      subst e1 e2
      rw [Addr.add_mid]
      exact (H4.out.1.cell hb').trans hc'
     have HSr:=veil hsrc
     clear hsrc hb8
     go_upto_region 15 with ((with_reducible refine zac 65 ?_); refine zck rfl _ _ 29 29 rfl 5 Tryd.underlying29 info1R g10 8 32 32 ⟨b8,o8,none⟩ 32 k8 rfl rfl 35 41 _ H4.out.2.1 32 rfl (fun j => .int .u8 (x8.getD j 0 : Nat)) HSr.out (by decide) (fun _ _ => rfl) ?_; intro w5 hb5 hr5)
     have hE5 : Ext w1 w5:=Below.trans H4.out.1 (hb5.new H4.out.2.2.1 (Below.size H4.out.1))
     have hrow : w5.rowIs g10 35 41 (cpF X0 x8 32):=hr5.congr fun j hj => by
      unfold cpF
      by_cases e : 8 ≤ j ∧ j < 8 + 32
      ·
       rw [if_pos e,if_pos e]
      ·
       rw [if_neg e,if_neg e,if_neg (by omega)]
     obtain ⟨r,hr⟩ : ∃ r : Rc,r = ⟨N0,N1,N2,N3,N4,N5,N6,N7,x8,x9⟩:=⟨_,rfl⟩
     obtain ⟨X,hX⟩ : ∃ X,X = rcC r (.slice A9 L9 k9):=⟨_,rfl⟩
     have h15:=blkOf hrow
     rw [H4.out.2.2.2,cp_done ⟨N0,N1,N2,N3,N4,N5,N6,N7,nilD,x9⟩ r (.slice A9 L9 k9) x8 (by rw [hr]) (by rw [hr]),← hX] at h15
     have hXi : (Tryd.prog.info? 35).map (·.size) = some X.size:=by rw [hX]; exact iRc _ _
     have hXo : X.all (·.oneCell') = true:=by rw [hX]; exact rcC_one _
     have hXz : RZ.size = X.size:=by rw [hX]; rfl
     have hB9:=HE.out.2.2.1.ext hE5
     have hRn : RvN (g2 + 1) w5 X r:=⟨⟨by rw [hr]; exact HR.out.2.2.1.symm,by rw [hr]; exact HE.out.2.1.1,by rw [hr]; exact hB9.1⟩,A9,k9,by rw [hX,hr]; show rcC _ _ = rcC _ (.slice A9 x9.length k9); rw [← HR.out.2.2.2],by rw [hr]; show x9.length ≤ k9; rw [← HR.out.2.2.2]; exact HE.out.2.2.2.2,by rw [hr]; exact hB9,by rw [hr]; exact HE.out.2.2.2.1⟩
     have hbl : r.bs.length ≤ 1000000000:=by
      rw [hr]
      exact Nat.le_trans HR.out.2.1 (by decide)
     have KM:=veil (may17_calls X r w5 hRn.rv hbl)
     have hy : mayC r = true → unB bs = some r:=by rw [hr]; exact HR.out.1.1 rfl
     have hz : mayC r = false → unB bs = none:=by rw [hr]; exact HR.out.1.2.2
     have HU:=veil (And.intro hy hz)
     have H5:=veil (And.intro (H1.out.1.trans hE5) (And.intro (hE5.block H1.out.2.1) (And.intro h15 (And.intro hRn (And.intro hXi (And.intro hXo hXz))))))
     clear hE5 hrow hr5 hb5 h15 hXi hXo hXz hB9 hRn hbl hy hz hX hr
     cases hmay : mayC r with
     | false =>
      rw [hmay] at KM
      have hr : unB bs = none:=HU.out.2 hmay
      clear hmay
      go_upto_region 16 with (first
       | ((with_reducible refine zac 70 ?_); refine zdh rfl 35 _ rfl g10 rfl 35 X (0,0) _ H5.out.2.2.1 Tryd.underlying35 rfl H5.out.2.2.2.2.1 ?_)
       | (go_at_call 13; refine KM.out.mono ?_; rintro e w6 ⟨rfl,hE6⟩))
      have h26:=hE6.block H5.out.2.1
      go_wp2_with ((with_reducible refine zag ?_); refine wpList_store_row rfl 35 _ _ rfl g2 RZ rfl rfl 35 _ h26 iRZ rfl zcx ?_)
      refine bodyPost_ret (zbt rfl _ _ g2 35 RZ (0,0) _ rfl (setRow_heap w6 g2 _ RZ 35 (0,0) h26) Tryd.underlying35 rfl iRZ) rfl ⟨_,_,rfl,zas (H5.out.1.trans hE6) H1.out.2.2 _,.inl ⟨hr,rfl,rfl⟩⟩
     | true =>
      rw [hmay] at KM
      have hr : unB bs = some r:=HU.out.1 hmay
      clear hmay
      go_upto_region 17 with (first
       | ((with_reducible refine zac 70 ?_); refine zdh rfl 35 _ rfl g10 rfl 35 X (0,0) _ H5.out.2.2.1 Tryd.underlying35 rfl H5.out.2.2.2.2.1 ?_)
       | (go_at_call 13; refine KM.out.mono ?_; rintro e w6 ⟨rfl,hE6⟩))
      have h26:=hE6.block H5.out.2.1
      have h10:=hE6.block H5.out.2.2.1
      go_wp2_with (first
       | ((with_reducible refine zac 76 ?_); refine wpList_load_row rfl 35 _ rfl g10 rfl 35 X (0,0) _ h10 Tryd.underlying35 rfl H5.out.2.2.2.2.1 ?_)
       | ((with_reducible refine zag ?_); refine wpList_store_row rfl 35 _ _ rfl g2 X rfl rfl 35 _ h26 H5.out.2.2.2.2.1 H5.out.2.2.2.2.2.2 H5.out.2.2.2.2.2.1 ?_))
      refine bodyPost_ret (zbt rfl _ _ g2 35 X (0,0) _ rfl (setRow_heap w6 g2 _ X 35 (0,0) h26) Tryd.underlying35 rfl H5.out.2.2.2.2.1) rfl ⟨_,_,rfl,zas (H5.out.1.trans hE6) H1.out.2.2 _,.inr ⟨r,hr,((H5.out.2.2.2.1.ext hE6).row (Nat.lt_succ_self g2) X).le (by have:=H1.out.2.2; omega),rfl⟩⟩
    ·
     have f1 : ((L8 : Int) != 32) = true:=by simp; omega
     have f2 : ¬ ((L8 : Int) = 32):=by omega
     have HN:=veil (HR.out.1.2.1 h32)
     rcases A8 with _ | ⟨b8,o8,m8⟩
     ·
      have h0 : L8 = 0:=by
       rcases HE.out.2.1.2 with h | ⟨_,_,e,_⟩
       ·
        rw [HR.out.2.2.1]; exact h
       ·
        cases e
      subst h0
      go_upto_region 15 with ((with_reducible refine zac 65 ?_); refine wpList_copy_nothing rfl _ _ 29 29 rfl 5 Tryd.underlying29 info1R _ _ _ _ _ _ rfl rfl (by simp) ?_)
      have H5:=veil (And.intro (H1.out.1.trans H4.out.1) (H4.out.1.block H1.out.2.1))
      go_wp2_with ((with_reducible refine zag ?_); refine wpList_store_row rfl 35 _ _ rfl g2 RZ rfl rfl 35 _ H5.out.2 iRZ rfl zcx ?_)
      refine bodyPost_ret (zbt rfl _ _ g2 35 RZ (0,0) _ rfl (setRow_heap w4 g2 _ RZ 35 (0,0) H5.out.2) Tryd.underlying35 rfl iRZ) rfl ⟨_,_,rfl,zas H5.out.1 H1.out.2.2 _,.inl ⟨HN.out,rfl,rfl⟩⟩
     ·
      have hsrc : ∀ j,j < Nat.min L8 32 → w4.cell? ((⟨b8,o8,m8⟩ : Addr).add j) = some (.int .u8 (x8.getD j 0 : Nat)):=fun j hj => by
       have hj1 : j < L8:=Nat.lt_of_lt_of_le hj (Nat.min_le_left _ _)
       obtain ⟨b',o',e',hb',hc'⟩:=HE.out.2.1.cell (j:=j) (by have:=HR.out.2.2.1; omega)
       injection e' with e'
       injection e' with e1 e2 e3
       subst e1 e2 e3
       rw [Addr.add_mid]
       exact (H4.out.1.cell hb').trans hc'
      have HSr:=veil hsrc
      have hm1 : Nat.min L8 32 ≤ 32:=Nat.min_le_right _ _
      obtain ⟨mm,hmm⟩ : ∃ k,k = Nat.min L8 32:=⟨_,rfl⟩
      rw [← hmm] at HSr hm1
      have HM:=veil hmm
      clear hsrc hmm
      go_upto_region 15 with ((with_reducible refine zac 65 ?_); refine zck rfl _ _ 29 29 rfl 5 Tryd.underlying29 info1R g10 8 32 32 ⟨b8,o8,m8⟩ L8 k8 rfl rfl 35 41 _ H4.out.2.1 mm HM.out (fun j => .int .u8 (x8.getD j 0 : Nat)) HSr.out (by omega) (fun _ _ => rfl) ?_; intro w5 hb5 hr5)
      have hE5 : Ext w1 w5:=Below.trans H4.out.1 (hb5.new H4.out.2.2.1 (Below.size H4.out.1))
      have H5:=veil (And.intro (H1.out.1.trans hE5) (hE5.block H1.out.2.1))
      clear hb5 hr5 hE5
      go_wp2_with ((with_reducible refine zag ?_); refine wpList_store_row rfl 35 _ _ rfl g2 RZ rfl rfl 35 _ H5.out.2 iRZ rfl zcx ?_)
      refine bodyPost_ret (zbt rfl _ _ g2 35 RZ (0,0) _ rfl (setRow_heap w5 g2 _ RZ 35 (0,0) H5.out.2) Tryd.underlying35 rfl iRZ) rfl ⟨_,_,rfl,zas H5.out.1 H1.out.2.2 _,.inl ⟨HN.out,rfl,rfl⟩⟩
theorem made_at17 {P : Program} {o : Oper} {a : Act} {w : World} {ty e : TypeId} {x k : Operand} {g off n cap i : Nat} (ho : o.op = .indexAddr ty x k) (hx : a.eval x = .slice (some ⟨g,off,none⟩) n cap) (hk : a.eval k = .int .i64 (i : Int)) (hi : i < n) (hu : P.underlying ty = some (.slice e)) (hs : (P.info? e).map (·.size) = some 1) : Made P o (.pointer (some ⟨g,off + i,none⟩)) a w:=zba fun W _ => by
 obtain ⟨inf,h1,h2⟩ : ∃ inf,P.info? e = some inf ∧ inf.size = 1:=by
  cases h : P.info? e with
  | none => simp [h] at hs
  | some inf => exact ⟨inf,rfl,by simpa [h] using hs⟩
 unfold execOp
 simp only [ho,hx,hk]
 simp [Instr.indexAt,asIntOf,run_underlying hu,sizeOf,typeInfo,h1,h2,hi,Result.andThen_ok,Addr.add_mid]
theorem OBodyA17.ext {n : Nat} {w w' : World} {bs : List Nat} {X : Array Value} {ev : Value} (h : OBodyA17 n w bs X ev) (k : Ext w w') : OBodyA17 n w' bs X ev :=
 h.imp id fun ⟨r,h1,h2,h3⟩ => ⟨r,h1,h2.ext k,h3⟩
theorem RvN.chg {n : Nat} {F : Nat → Prop} {w w' : World} {X : Array Value} {r : Rc} (h : RvN n w X r) (k : Chg F w w') (hF : ∀ z,F z → z < n) : RvN n w' X r:=by
 obtain ⟨h0,A,c,e,hc,hB,hN⟩:=h
 exact ⟨h0,A,c,e,hc,hN.chg hB k hF,hN⟩
theorem KT.chg {F : Nat → Prop} {w w' : World} (h : KT w) (k : Chg F w w') (hF : ¬ F 0) : KT w':=h.of_block (k.block 0 h.lt hF) k.size
theorem KT.more {w w' : World} (h : KT w) (k : Ext w w') : KT w':=kt_now h k
theorem zdu {n : Nat} {w : World} {bs : List Nat} {X : Array Value} {ev : Value} (h : OBodyA17 n w bs X ev) : (Tryd.prog.info? 35).map (·.size) = some X.size ∧ RZ.size = X.size ∧ X.all (·.oneCell') = true:=by
 rcases h with ⟨_,rfl,_⟩ | ⟨r,_,hR,_⟩
 ·
  exact ⟨iRZ,rfl,zcx⟩
 ·
  exact ⟨hR.rv.info,hR.rv.size.symm,hR.rv.one⟩
def OpenN17 (n : Nat) (w' : World) (bs : List Nat) (X D G : Array Value) (ev : Value) : Prop :=
 (openR bs = none ∧ X = RZ ∧ D = DZ ∧ G = gc 0 0 ∧ ev = .iface 44 (.int .i64 2)) ∨ (∃ r body x s,openR bs = some (r,body,x,s) ∧ RvN n w' X r ∧ D = dgc (dgL body) ∧ G = gc x s ∧ ev = .nilIface)
theorem OpenN17.all {n : Nat} {w' : World} {bs : List Nat} {X D G : Array Value} {ev : Value} (h : OpenN17 n w' bs X D G ev) : OpenC17 lowL w' bs X D G ev:=by
 rcases h with h | ⟨r,body,x,s,h1,h2,h3⟩
 ·
  exact .inl h
 ·
  exact .inr ⟨r,body,x,s,h1,h2.rv,h3⟩
structure Oq (w w' : World) (g2 g3 g4 : Nat) : Prop where
 ext : Ext w w'
 b2 : w'.heap[g2]? = some (.cells RZ 35 (0,0))
 b3 : w'.heap[g3]? = some (.cells DZ 33 (0,0))
 b4 : w'.heap[g4]? = some (.cells Z8 37 (0,0))
 lo : w.heap.size ≤ g2
 l23 : g2 < g3
 l34 : g3 < g4
theorem Oq.more {w w' w2 : World} {g2 g3 g4 : Nat} (h : Oq w w' g2 g3 g4) (k : Ext w' w2) : Oq w w2 g2 g3 g4:=⟨h.ext.trans k,k.block h.b2,k.block h.b3,k.block h.b4,h.lo,h.l23,h.l34⟩
theorem Oq.fin {w W : World} {g2 g3 g4 : Nat} (h : Oq w W g2 g3 g4) (X D G : Array Value) : Ext w (((W.setRow g2 X).setRow g3 D).setRow g4 G) ∧ (((W.setRow g2 X).setRow g3 D).setRow g4 G).heap[g2]? = some (.cells X 35 (0,0)) ∧
  (((W.setRow g2 X).setRow g3 D).setRow g4 G).heap[g3]? = some (.cells D 33 (0,0)) ∧ (((W.setRow g2 X).setRow g3 D).setRow g4 G).heap[g4]? = some (.cells G 37 (0,0)):=by
 have h23:=h.l23
 have h34:=h.l34
 have h1:=two_rows (T:=X) (G:=D) h.ext h.b2 h.b3 ⟨h.lo,h.l23⟩
 refine ⟨zas h1.1 (by have:=h.lo; omega) G,(zaj _ G (by omega)).trans h1.2.1,(zaj _ G (by omega)).trans h1.2.2,?_⟩
 exact setRow_heap _ _ Z8 G 37 (0,0) (zar D (zar X h.b4 (by omega)) h34)
theorem zfc (C : CodeL) (A : Option Addr) (m c : Nat) (bs : List Nat) (hm : m = bs.length) (hmc : m ≤ c) (hle : m ≤ 100000000) (w : World) (hK : KT w) (hS : Bs w A bs) :
  Calls Tryd.prog 6 #[.slice A m c] w fun e w' => ∃ X D G ev,e = .returned (.tuple #[.agg X,.agg D,.agg G,ev]) ∧ Ext w w' ∧ OpenN17 w.heap.size w' bs X D G ev:=by
 have KG:=veil (fun W (hW : Bs W A bs) => cget_calls A m c bs 2 hm hmc hle (by decide) W hW)
 have k2:=neNil2
 have k3:=neNilN
 have HB:=veil (And.intro hS hK)
 clear hm hmc hle hS hK
 go_enter Tryd.func6,Tryd.ntmps6
 go_upto_region 1 with (fail)
 obtain ⟨g2,hg2⟩ : ∃ g,g = w.heap.size:=⟨_,rfl⟩
 obtain ⟨g3,hg3⟩ : ∃ g,g = w.heap.size + 1:=⟨_,rfl⟩
 obtain ⟨g4,hg4⟩ : ∃ g,g = w.heap.size + 1 + 1:=⟨_,rfl⟩
 obtain ⟨w0,hw0⟩ : ∃ W,W = ((w.alloc (.cells RZ 35)).alloc (.cells DZ 33)).alloc (.cells Z8 37):=⟨_,rfl⟩
 have h3:=zbs w (.cells RZ 35) (.cells DZ 33) (.cells Z8 37)
 have hE0 : Ext w w0:=by rw [hw0]; exact (two_ext _ _ _).trans (Ext.alloc _ _)
 have hs0 : w0.heap.size = g4 + 1:=by rw [hw0,hg4]; simp only [World.size_alloc]
 rw [← hw0,← hg4,← hg3,← hg2] at h3
 have H0:=veil (show Oq w w0 g2 g3 g4 from ⟨hE0,h3.1,h3.2.1,h3.2.2,by omega,by omega,by omega⟩)
 have n23 : ¬ g3 = g2:=by omega
 have n24 : ¬ g4 = g2:=by omega
 have n34 : ¬ g4 = g3:=by omega
 have HZ:=veil (And.intro hs0 (show w.heap.size ≤ g4 + 1 by omega))
 unfold RZ DZ Z8 at hw0
 rw [← hw0,← hg4,← hg3,← hg2]
 clear hw0 hg4 hg3 hg2 hE0 h3 hs0
 go_upto_region 2 with (go_at_call 9; refine (KG.out w0 (HB.out.1.ext H0.out.ext)).mono ?_; rintro e w1 ⟨x,ev,rfl,hE1,hA⟩)
 have H1:=veil (H0.out.more hE1)
 clear hE1 H0 KG
 rcases hA with ⟨hn,⟨A2,c2,rfl⟩,rfl⟩ | ⟨l,hs,hl2,hV,rfl⟩
 ·
  have hr:=zfi (texts_parts_none hn)
  clear hn
  have hF:=H1.out.fin RZ DZ Z8
  have HF:=veil hF
  clear hF
  go_wp2_with (first
   | ((with_reducible refine zag ?_); refine wpList_store_row rfl 35 _ _ rfl g2 RZ rfl rfl 35 _ H1.out.b2 iRZ rfl zcx ?_)
   | ((with_reducible refine zag ?_); refine wpList_store_row rfl 33 _ _ rfl g3 DZ rfl rfl 33 _ (zar RZ H1.out.b3 H1.out.l23) iDZ rfl dz_one ?_)
   | ((with_reducible refine zag ?_); refine wpList_store_row rfl 37 _ _ rfl g4 Z8 rfl rfl 37 _ (zar DZ (zar RZ H1.out.b4 (Nat.lt_trans H1.out.l23 H1.out.l34)) H1.out.l34) iZ8 rfl z8_one ?_))
  exact bodyPost_ret (zcf rfl _ _ g2 g3 g4 35 33 37 RZ DZ Z8 (0,0) (0,0) (0,0) _ _ _ rfl HF.out.2.1 Tryd.underlying35 rfl iRZ rfl HF.out.2.2.1 Tryd.underlying33 rfl iDZ rfl HF.out.2.2.2 Tryd.underlying37 rfl iZ8) rfl ⟨_,_,_,_,rfl,HF.out.1,.inl ⟨hr,rfl,rfl,z8_gc,rfl⟩⟩
 ·
  have hpt:=texts_parts hs
  have hx0:=texts_len hs (i:=0) (by omega)
  obtain ⟨_,AL,cl,rfl,hcl,hx⟩:=hV
  rw [hl2] at hx hcl ⊢
  rw [HZ.out.1] at hx
  obtain ⟨b,o,hAL,hb,hb4,hx⟩:=hx.resolve_left (by decide)
  obtain ⟨A0,k0,c0,hk0,hB0,hN0⟩:=hx 0 (by decide)
  obtain ⟨A1,k1,c1,hk1,hB1,hN1⟩:=hx 1 (by decide)
  obtain ⟨x0,hx0e⟩ : ∃ x,x = l.getD 0 []:=⟨_,rfl⟩
  obtain ⟨x1,hx1e⟩ : ∃ x,x = l.getD 1 []:=⟨_,rfl⟩
  rw [← hx0e,← hx1e] at hpt
  rw [← hx0e] at c0 hk0 hB0 hx0 hN0
  rw [← hx1e] at c1 hk1 hB1
  obtain ⟨L0,hL0⟩ : ∃ L,L = x0.length:=⟨_,rfl⟩
  obtain ⟨L1,hL1⟩ : ∃ L,L = x1.length:=⟨_,rfl⟩
  rw [← hL0] at c0 hk0 hx0
  rw [← hL1] at c1 hk1 hpt
  have HP:=veil hpt
  have HL1:=veil (And.intro hL1 hk1)
  have HL0:=veil (And.intro hL0 (And.intro hk0 (And.intro hx0 (And.intro hN0 hb4))))
  rw [Nat.add_zero] at c0
  have KO:=veil (fun W (hW : Bs W A0 x0) => openBody17_calls A0 L0 k0 x0 hL0 hk0 (by omega) W hW)
  have HB0:=veil (And.intro hB0 hB1)
  subst hAL
  clear hx hs hx0e hx1e hpt hL0 hk0 hx0 hN0 hN1 hb4 hB0 hB1 hL1 hk1
  go_upto_region 5 with (first
   | (go_at_call 10; refine (KO.out _ HB0.out.1).mono ?_; rintro e w2 ⟨X,ev,rfl,hE2,hA⟩)
   | ((with_reducible refine zag ?_); refine wpList_store_row rfl 35 _ _ rfl w2.heap.size X rfl rfl 35 _ (zae w2 _) (zdu hA).1 (zdu hA).2.1 (zdu hA).2.2 ?_; rw [World.setRow_alloc_new]))
  have hSZ:=zdu hA
  have hAl:=Ext.alloc w2 (.cells X 35)
  have hE3:=hE2.trans hAl
  have h8:=zae w2 (.cells X 35)
  have hA3:=hA.ext hAl
  have hg48 : g4 < w1.heap.size ∧ w1.heap.size ≤ w2.heap.size:=⟨(Array.getElem?_eq_some_iff.1 H1.out.b4).1,Below.size hE2⟩
  obtain ⟨g8,hg8⟩ : ∃ g,g = w2.heap.size:=⟨_,rfl⟩
  rw [← hg8] at h8 hg48 ⊢
  generalize w2.alloc (.cells X 35) = w3 at *
  replace c0:=(hE3.cell hb).trans c0
  replace c1:=(hE3.cell hb).trans c1
  have H3:=veil (And.intro (H1.out.more hE3) (And.intro h8 (And.intro hE3 hg48)))
  have HX:=veil hSZ
  have HA:=veil hA3
  clear hSZ hAl hE3 h8 hA3 hA hg8 hg48 hE2 KO
  rcases HA.out with ⟨hun,rfl,rfl⟩ | ⟨r,hun,hR,rfl⟩
  ·
   have hr : openR bs = none:=by
    have h:=HP.out
    split at h
    ·
     rw [openR_un h,hun]; rfl
    ·
     exact zfi h
   have HR:=veil hr
   have HF:=veil (H3.out.1.fin RZ DZ Z8)
   clear hr hun HP c0 c1
   go_wp2_with (first
    | ((with_reducible refine zag ?_); refine wpList_store_row rfl 35 _ _ rfl g2 RZ rfl rfl 35 _ H3.out.1.b2 iRZ rfl zcx ?_)
    | ((with_reducible refine zag ?_); refine wpList_store_row rfl 33 _ _ rfl g3 DZ rfl rfl 33 _ (zar RZ H3.out.1.b3 H3.out.1.l23) iDZ rfl dz_one ?_)
    | ((with_reducible refine zag ?_); refine wpList_store_row rfl 37 _ _ rfl g4 Z8 rfl rfl 37 _ (zar DZ (zar RZ H3.out.1.b4 (Nat.lt_trans H3.out.1.l23 H3.out.1.l34)) H3.out.1.l34) iZ8 rfl z8_one ?_))
   exact bodyPost_ret (zcf rfl _ _ g2 g3 g4 35 33 37 RZ DZ Z8 (0,0) (0,0) (0,0) _ _ _ rfl HF.out.2.1 Tryd.underlying35 rfl iRZ rfl HF.out.2.2.1 Tryd.underlying33 rfl iDZ rfl HF.out.2.2.2 Tryd.underlying37 rfl iZ8) rfl ⟨_,_,_,_,rfl,HF.out.1,.inl ⟨HR.out,rfl,rfl,z8_gc,rfl⟩⟩
  ·
   have HU:=veil (And.intro hun hR)
   clear hun hR HA
   by_cases h64 : L1 = 64
   rotate_left
   ·
    have KP:=veil (fun W => C.parse_odd A1 L1 k1 W h64)
    have hp:=HP.out
    rw [if_neg h64] at hp
    have HR:=veil (zfi hp)
    clear hp h64 HP HL1 c0
    go_upto_region 8 with (first
     | (go_at_call 11; refine (KP.out _).mono ?_; rintro e w4 ⟨rfl,hE4⟩)
     | ((with_reducible refine zag ?_); refine wpList_store_row rfl 37 _ _ rfl w4.heap.size (gc 0 0) rfl rfl 37 _ (zae w4 _) (iSg _ _) rfl (gc_one _ _) ?_; rw [World.setRow_alloc_new]))
    have hE5:=hE4.trans (Ext.alloc w4 (.cells (gc 0 0) 37))
    generalize w4.alloc (.cells (gc 0 0) 37) = w5 at *
    have H5:=veil (H3.out.1.more hE5)
    have HF:=veil (H5.out.fin RZ DZ Z8)
    clear hE5 hE4 c1
    go_wp2_with (first
     | ((with_reducible refine zag ?_); refine wpList_store_row rfl 35 _ _ rfl g2 RZ rfl rfl 35 _ H5.out.b2 iRZ rfl zcx ?_)
     | ((with_reducible refine zag ?_); refine wpList_store_row rfl 33 _ _ rfl g3 DZ rfl rfl 33 _ (zar RZ H5.out.b3 H5.out.l23) iDZ rfl dz_one ?_)
     | ((with_reducible refine zag ?_); refine wpList_store_row rfl 37 _ _ rfl g4 Z8 rfl rfl 37 _ (zar DZ (zar RZ H5.out.b4 (Nat.lt_trans H5.out.l23 H5.out.l34)) H5.out.l34) iZ8 rfl z8_one ?_))
    exact bodyPost_ret (zcf rfl _ _ g2 g3 g4 35 33 37 RZ DZ Z8 (0,0) (0,0) (0,0) _ _ _ rfl HF.out.2.1 Tryd.underlying35 rfl iRZ rfl HF.out.2.2.1 Tryd.underlying33 rfl iDZ rfl HF.out.2.2.2 Tryd.underlying37 rfl iZ8) rfl ⟨_,_,_,_,rfl,HF.out.1,.inl ⟨HR.out,rfl,rfl,z8_gc,rfl⟩⟩
   ·
    have KP:=veil (fun W (hW : Bs W A1 x1) => C.parse_64 A1 L1 k1 x1 W HL1.out.1 h64 HL1.out.2 hW)
    have hp:=HP.out
    rw [if_pos h64] at hp
    have hr : openR bs = some (r,x0,sigR x1,sigS x1):=by rw [openR_un hp,HU.out.1]; rfl
    have HR:=veil hr
    clear hp hr h64 HP HL1
    have hb3 : b < w3.heap.size:=Nat.lt_of_lt_of_le hb (Below.size H3.out.2.2.1)
    go_upto_region 8 with (first
     | (go_at_call 11; refine (KP.out _ (HB0.out.2.ext H3.out.2.2.1)).mono ?_; rintro e w4 ⟨rfl,hE4⟩)
     | ((with_reducible refine zag ?_); refine wpList_store_row rfl 37 _ _ rfl w4.heap.size (gc (sigR x1) (sigS x1)) rfl rfl 37 _ (zae w4 _) (iSg _ _) rfl (gc_one _ _) ?_; rw [World.setRow_alloc_new]))
    have hE5:=hE4.trans (Ext.alloc w4 (.cells (gc (sigR x1) (sigS x1)) 37))
    have h9:=zae w4 (.cells (gc (sigR x1) (sigS x1)) 37)
    have hg9 : g4 < w4.heap.size:=by have h1:=Below.size hE4; have h2:=H3.out.2.2.2; have h3:=(Array.getElem?_eq_some_iff.1 H3.out.2.1).1; omega
    generalize w4.alloc (.cells (gc (sigR x1) (sigS x1)) 37) = w5 at *
    generalize w4.heap.size = g9 at *
    have H7:=veil (H3.out.1.more hE5)
    have HW:=veil (And.intro (hE5.block H3.out.2.1) (And.intro h9 (And.intro ((hE5.cell hb3).trans c0) (And.intro (Nat.lt_of_lt_of_le hb3 (Below.size hE5)) (And.intro (HU.out.2.ext hE5) (H3.out.2.2.1.trans hE5))))))
    have hkt : KT w5:=kt_now HB.out.2 ((H1.out.ext.trans H3.out.2.2.1).trans hE5)
    have HKT:=veil hkt
    have HN:=veil (And.intro hg9 (And.intro H3.out.2.2.2.1 H3.out.2.2.2.2))
    have o1:=H7.out.lo
    have o2:=H7.out.l23
    have o3:=H7.out.l34
    have o4 : g4 < g9:=hg9
    have o5 : g4 < g8:=by have:=H3.out.2.2.2; omega
    have o6 : g4 < b:=by have:=HL0.out.2.2.2.2; omega
    have o7 : 0 < g2:=by have h:=HB.out.2.lt; omega
    have HO:=veil (And.intro o1 (And.intro o2 (And.intro o3 (And.intro o4 (And.intro o5 (And.intro o6 o7))))))
    clear hkt hE5 h9 hE4 c0 c1 KP hg9 o1 o2 o3 o4 o5 o6 o7
    go_upto_region 10 with (fail)
    refine wp_fre [⟨[],.fix (.agg X)⟩,⟨[],.fix (.slice (some ⟨b,o,none⟩) 2 cl)⟩,⟨[1],.fix (.pointer (some ⟨b,o + 0,none⟩))⟩,⟨[2],.fix (.slice A0 L0 k0)⟩,⟨[3],.fix (dgv (dgL x0))⟩,⟨[],.fix (.agg (gc (sigR x1) (sigS x1)))⟩,⟨[0],.old g2 35 RZ fun _ => X⟩,⟨[4],.old g3 33 DZ fun _ => dgc (dgL x0)⟩,⟨[5],.old g4 37 Z8 fun _ => gc (sigR x1) (sigS x1)⟩,⟨[],.fix .nilIface⟩] (by kernel_rfl) (by kernel_rfl) (by unfold apartL; simp [oldL,n23,n24,n34]) (by unfold apartL; simp [stoL]) ?_ ?_
    ·
     obtain ⟨o1,o2,o3,o4,o5,o6,o7⟩:=HO.out
     refine ⟨?_,?_,?_,?_,?_,?_,?_,?_,?_,?_,trivial⟩
     ·
      intro vs W hC _
      with_reducible refine made_row (ty:=35) (x:=.tmp 8) (g:=g8) (t:=35) (C:=X) (fr:=(0,0)) ?_ ?_ ?_ Tryd.underlying35 ?_ ?_
      ·
       rfl
      ·
       exact (ev_far (by kernel_rfl)).trans rfl
      ·
       exact hC.at HW.out.1 (fun h => by have h:=zdw h; simp only [oldL,List.map_cons,List.map_nil,List.mem_cons,Option.some.injEq,List.not_mem_nil,reduceCtorEq,false_or,or_false] at h; omega)
      ·
       rfl
      ·
       exact HX.out.1
     ·
      intro vs W _ _
      with_reducible refine zca (x:=.tmp 6) ?_ ?_
      ·
       exact .inl rfl
      ·
       exact (ev_far (by kernel_rfl)).trans rfl
     ·
      intro vs W _ hR
      with_reducible refine made_at17 (ty:=22) (e:=29) (x:=.tmp 48) (k:=.const (.int .i64 0)) (g:=b) (off:=o) (n:=2) (cap:=cl) (i:=0) ?_ ?_ ?_ ?_ Tryd.underlying22 ?_
      ·
       rfl
      ·
       exact (ev_at (i:=1) (by kernel_rfl) rfl rfl).trans (hR 1 (.head _))
      ·
       rfl
      ·
       decide
      ·
       kernel_rfl
     ·
      intro vs W hC hR
      with_reducible refine made_cell (ty:=29) (x:=.tmp 49) (p:=⟨b,o + 0,none⟩) ?_ ?_ ?_ ?_ ?_
      ·
       rfl
      ·
       exact (ev_at (i:=2) (by kernel_rfl) rfl rfl).trans (hR 2 (.head _))
      ·
       exact (hC.cell HW.out.2.2.2.1 (fun h => by have h:=zdw h; simp only [oldL,List.map_cons,List.map_nil,List.mem_cons,Option.some.injEq,List.not_mem_nil,reduceCtorEq,false_or,or_false] at h; omega)).trans HW.out.2.2.1
      ·
       exact Nat.lt_of_lt_of_le HW.out.2.2.2.1 hC.size
      ·
       intro W; kernel_rfl
     ·
      intro vs W hC hR
      with_reducible refine made_fun (xs:=[.tmp 50]) (ts:=#[29]) (args:=[.slice A0 L0 k0]) ?_ (map1 ?_) (fun W => zcm Tryd.func12 rfl rfl _ W) fun W' hW => C.sum A0 L0 k0 x0 W' (KT.more ((HKT.out.chg hC (fun h => by have h:=zdw h; simp only [oldL,List.map_cons,List.map_nil,List.mem_cons,Option.some.injEq,List.not_mem_nil,reduceCtorEq,false_or,or_false] at h; omega))) hW) HL0.out.1 HL0.out.2.1 (by have:=HL0.out.2.2.1; omega) ((HL0.out.2.2.2.1.chg (HB0.out.1.ext HW.out.2.2.2.2.2) hC (fun z h => by have h:=zdw h; simp only [oldL,List.map_cons,List.map_nil,List.mem_cons,Option.some.injEq,List.not_mem_nil,reduceCtorEq,false_or,or_false] at h; omega)).ext hW)
      ·
       rfl
      ·
       exact (ev_at (i:=3) (by kernel_rfl) rfl rfl).trans (hR 3 (.head _))
     ·
      intro vs W hC _
      with_reducible refine made_row (ty:=37) (x:=.tmp 9) (g:=g9) (t:=37) (C:=gc (sigR x1) (sigS x1)) (fr:=(0,0)) ?_ ?_ ?_ Tryd.underlying37 ?_ ?_
      ·
       rfl
      ·
       exact (ev_far (by kernel_rfl)).trans rfl
      ·
       exact hC.at HW.out.2.1 (fun h => by have h:=zdw h; simp only [oldL,List.map_cons,List.map_nil,List.mem_cons,Option.some.injEq,List.not_mem_nil,reduceCtorEq,false_or,or_false] at h; omega)
      ·
       rfl
      ·
       exact iSg _ _
     ·
      exact ⟨rfl,H7.out.b2,_,_,_,rfl,fun vs W hR => ⟨(ev_far (by kernel_rfl)).trans rfl,(ev_at (i:=0) (by kernel_rfl) rfl rfl).trans (hR 0 (.head _)),HX.out.1,HX.out.2.1,HX.out.2.2⟩⟩
     ·
      exact ⟨rfl,H7.out.b3,_,_,_,rfl,fun vs W hR => ⟨(ev_far (by kernel_rfl)).trans rfl,(ev_at (i:=4) (by kernel_rfl) rfl rfl).trans (hR 4 (.head _)),iDg _,(zah 32 _).symm,zbm fun _ _ => rfl⟩⟩
     ·
      exact ⟨rfl,H7.out.b4,_,_,_,rfl,fun vs W hR => ⟨(ev_far (by kernel_rfl)).trans rfl,(ev_at (i:=5) (by kernel_rfl) rfl rfl).trans (hR 5 (.head _)),iSg _ _,rfl,gc_one _ _⟩⟩
     ·
      intro vs W _ _
      with_reducible refine zca (x:=.const Value.nilIface) ?_ ?_
      ·
       exact .inr rfl
      ·
       exact rfl
    ·
     intro vs W hI
     obtain ⟨o1,o2,o3,o4,o5,o6,o7⟩:=HO.out
     have e0 : vs 0 = .agg X:=hI.out.R 0 (by decide)
     have e1 : vs 1 = .slice (some ⟨b,o,none⟩) 2 cl:=hI.out.R 1 (by decide)
     have e2 : vs 2 = .pointer (some ⟨b,o + 0,none⟩):=hI.out.R 2 (by decide)
     have e3 : vs 3 = .slice A0 L0 k0:=hI.out.R 3 (by decide)
     have e4 : vs 4 = dgv (dgL x0):=hI.out.R 4 (by decide)
     have e5 : vs 5 = .agg (gc (sigR x1) (sigS x1)):=hI.out.R 5 (by decide)
     have e9 : vs 9 = .nilIface:=hI.out.R 9 (by decide)
     have q2 : W.heap[g2]? = some (.cells X 35 (0,0)):=hI.out.O (i:=6) (by decide) rfl
     have q3 : W.heap[g3]? = some (.cells (dgc (dgL x0)) 33 (0,0)):=hI.out.O (i:=7) (by decide) rfl
     have q4 : W.heap[g4]? = some (.cells (gc (sigR x1) (sigS x1)) 37 (0,0)):=hI.out.O (i:=8) (by decide) rfl
     have hE : Ext w W:=hI.out.chg.new H7.out.ext (fun z hz h => by have h:=zdw h; simp only [oldL,List.map_cons,List.map_nil,List.mem_cons,Option.some.injEq,List.not_mem_nil,reduceCtorEq,false_or,or_false] at h; omega)
     have hRW:=HW.out.2.2.2.2.1.chg hI.out.chg fun z h => by have h:=zdw h; simp only [oldL,List.map_cons,List.map_nil,List.mem_cons,Option.some.injEq,List.not_mem_nil,reduceCtorEq,false_or,or_false] at h; have:=HN.out.2.1; omega
     simp only [putF,e0,e1,e2,e3,e4,e5,e9,Nat.zero_add,Nat.reduceAdd,Act.put,List.setIfInBounds_toArray,List.set_cons_zero,List.set_cons_succ]
     have HZ2:=veil (And.intro q2 (And.intro q3 (And.intro q4 (And.intro hE (hRW.le (Below.size H1.out.ext))))))
     clear hI q2 q3 q4 hE hRW e0 e1 e2 e3 e4 e5 e9 o1 o2 o3 o4 o5 o6 o7
     go_wp2
     exact bodyPost_ret (zcf rfl _ _ g2 g3 g4 35 33 37 X (dgc (dgL x0)) (gc (sigR x1) (sigS x1)) (0,0) (0,0) (0,0) _ _ _ rfl HZ2.out.1 Tryd.underlying35 rfl HX.out.1 rfl HZ2.out.2.1 Tryd.underlying33 rfl (iDg _) rfl HZ2.out.2.2.1 Tryd.underlying37 rfl (iSg _ _)) rfl ⟨_,_,_,_,rfl,HZ2.out.2.2.2.1,.inr ⟨r,x0,_,_,HR.out,HZ2.out.2.2.2.2,rfl,rfl,rfl⟩⟩
theorem OpenN17.ext {n : Nat} {w w' : World} {bs : List Nat} {X D G : Array Value} {ev : Value} (h : OpenN17 n w bs X D G ev) (k : Ext w w') : OpenN17 n w' bs X D G ev :=
 h.imp id fun ⟨r,body,x,s,h1,h2,h3⟩ => ⟨r,body,x,s,h1,h2.ext k,h3⟩
end Go.Proofs.YtihophdbkjhopaaDoor
