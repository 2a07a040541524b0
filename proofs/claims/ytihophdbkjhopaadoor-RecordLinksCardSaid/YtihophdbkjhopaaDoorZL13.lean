/-
  Of FShr2.
-/
import Derived.Test.YtihophdbkjhopaaDoorZL1
import Derived.Test.YtihophdbkjhopaaDoorZL12
set_option maxRecDepth 1000000
set_option maxHeartbeats 20000000
namespace Go.Proofs.YtihophdbkjhopaaDoor
open Go.RowKit
open Go.Value renaming int → vI
open Go.IntKind renaming u64 → vU
open Go.Act renaming put → aP
open List renaming setIfInBounds_toArray → lA, set_cons_zero → lZ, set_cons_succ → lS
theorem shrunk_any (b X M : Nat) (N : Int) (Q : Nat) (hX : X < top8) (hK : Fok M N Q) (w : World) (hF : Fb w b M N Q) :
  Calls Tryd.prog 72 #[.pointer (some ⟨b,0,none⟩),.agg #[vI vU (wd X 0),vI vU (wd X 1),vI vU (wd X 2),vI vU (wd X 3),vI vU (wd X 4),vI vU (wd X 5),vI vU (wd X 6),vI vU (wd X 7)]] w fun e w' => (∃ Z,Z < top ∧ Z * top % M = X % M ∧ (X < M * top → Z < M) ∧ e = .returned (.agg #[vI vU (wd Z 0),vI vU (wd Z 1),vI vU (wd Z 2),vI vU (wd Z 3)])) ∧ Below w.heap.size w w':=by
 have hA0 : ((w.alloc (.cells #[vI vU (wd X 0),vI vU (wd X 1),vI vU (wd X 2),vI vU (wd X 3),vI vU (wd X 4),vI vU (wd X 5),vI vU (wd X 6),vI vU (wd X 7)] 102)).alloc (.cells #[vI vU 0,vI vU 0,vI vU 0,vI vU 0] 25)).rowIs w.heap.size 102 8 (fun j => .int .u64 (wd X j)):=(zad (n:=8) (by simp) rfl (arr8 fun j => .int .u64 (wd X j))).alloc _
 have hR0 : ((w.alloc (.cells #[vI vU (wd X 0),vI vU (wd X 1),vI vU (wd X 2),vI vU (wd X 3),vI vU (wd X 4),vI vU (wd X 5),vI vU (wd X 6),vI vU (wd X 7)] 102)).alloc (.cells #[vI vU 0,vI vU 0,vI vU 0,vI vU 0] 25)).rowIs (w.heap.size + 1) 25 4 (fun _ => .int .u64 0):=zad (n:=4) (by simp) rfl (arr4 fun _ => .int .u64 0)
 have hb0 : Below w.heap.size w ((w.alloc (.cells #[vI vU (wd X 0),vI vU (wd X 1),vI vU (wd X 2),vI vU (wd X 3),vI vU (wd X 4),vI vU (wd X 5),vI vU (wd X 6),vI vU (wd X 7)] 102)).alloc (.cells #[vI vU 0,vI vU 0,vI vU 0,vI vU 0] 25)):=((Below.refl _ _).alloc (by simp) _).alloc (by simp) _
 have hbs:=hF.lt
 have HX:=veil hX
 have HF:=veil hF
 clear hX hF
 go_enter Tryd.func72,Tryd.ntmps72
 go_wp2
 generalize ((w.alloc (.cells #[vI vU (wd X 0),vI vU (wd X 1),vI vU (wd X 2),vI vU (wd X 3),vI vU (wd X 4),vI vU (wd X 5),vI vU (wd X 6),vI vU (wd X 7)] 102)).alloc (.cells #[vI vU 0,vI vU 0,vI vU 0,vI vU 0] 25)) = w0 at *
 go_loopw [5,15] (fun ov i wr => ∃ (k Z T : Nat) (o : Int),k ≤ 4 ∧ i = .int .i64 (k : Int) ∧ ov = .int .u64 o ∧ 0 ≤ o ∧ o ≤ 1 ∧ Hid (ShrO X M k Z T o) ∧ wr.rowIs w.heap.size 102 8 (fun j => .int .u64 (wd Z j)) ∧ wr.rowIs (w.heap.size + 1) 25 4 (fun _ => .int .u64 0) ∧ Below w.heap.size w wr)
  (fun _ i _ => 4 - (intOf i).toNat)
 case atStart => exact ⟨0,X,0,0,by omega,rfl,rfl,by omega,by omega,veil (shrO_start HX.out),hA0,hR0,hb0⟩
 case round =>
  obtain ⟨k,Z,T,o,hk,rfl,rfl,ho0,ho1,hS,hA,hR,hbel⟩:=hrel
  clear hA0 hR0 hb0
  by_cases hlt : k < 4
  ·
   have hki : (k : Int) < 8:=by omega
   have hd : decide ((k : Int) < 4) = true:=by simp; omega
   have c1:=hA.cell (show k < 8 by omega)
   have hFr:=HF.out.below hbel hbs
   have c2:=hFr.inv
   obtain ⟨m0,m1,m2,m3⟩:=hFr.mod
   obtain ⟨tm,ht,ht0,ht1,hz⟩:=shr_times (Z:=Z) (k:=k) hK.inv
   have HZ:=veil hz
   have HT:=veil ht
   clear hz ht hFr
   go_wp2
   go_quiet (fail)
   rw [HT.out]
   clear c1 c2
   go_wp2
   clear m0 m1 m2 m3
   replace hA:=zbz hA nq
   replace hR:=zbz hR nq
   replace hbel:=zaz hbel nq
   obtain ⟨wo,hwo⟩ : ∃ wo : World,wo = wr.drewN nq:=⟨_,rfl⟩
   rw [← hwo] at hA hR hbel ⊢
   clear hwo
   go_loopw [8,31] (fun cc q wq => ∃ (j Z1 : Nat) (c : Int),j ≤ 4 ∧ q = .int .i64 (j : Int) ∧ cc = .int .u64 c ∧ 0 ≤ c ∧ c ≤ 18446744073709551615 ∧ Hid (ShrI M k Z j Z1 tm c) ∧ wq.rowIs w.heap.size 102 8 (fun j => .int .u64 (wd Z1 j)) ∧ wq.rowIs (w.heap.size + 1) 25 4 (fun _ => .int .u64 0) ∧ Below w.heap.size w wq)
    (fun _ q _ => 4 - (intOf q).toNat)
   case atStart => exact ⟨0,Z,0,by omega,rfl,rfl,by omega,by omega,veil (shrI_start hS.out.1),hA,hR,hbel⟩
   case round =>
    obtain ⟨j,Z1,c,hj,rfl,rfl,hc0,hc1,hI,hA1,hR1,hbel1⟩:=hrel
    clear hA hR hbel
    by_cases hlj : j < 4
    ·
     have hx:=index_num M j hlj
     obtain ⟨t,ht⟩ : ∃ t,t = k + j:=⟨_,rfl⟩
     have hti : (k : Int) + (j : Int) = (t : Int):=by omega
     have ht8 : (t : Int) < 8:=by omega
     have htz : (0 : Int) ≤ (t : Int):=by omega
     have htw : IntKind.i64.wrap (t : Int) = (t : Int):=IntWalk.i64_in _ (by omega)
     have htn : (t : Int).toNat = t:=by omega
     have c3:=hA1.cell (i:=t) (by omega)
     have f3:=hA1.frozen t
     obtain ⟨C⟩:=col_is tm (wd M j) c (wd Z1 t) ht0 ht1 (wd_lo _ _) (wd_le _ _) hc0 hc1 (wd_lo _ _) (wd_le _ _)
     obtain ⟨Z',hz1,hz2⟩:=shrI_step ht (by omega) ht0 hc0 hI.out C
     obtain ⟨H,L,L1,c1,L2,c2,hmul,ha1,ha2,bH,bL1,bL2,bL2',bc1,bc2,b4,b5,hsum⟩:=C
     dsimp only at hz1 hz2
     have HM:=veil hmul
     have H1:=veil hz1
     have H2:=veil hz2
     have HTT:=veil ht
     clear hmul hz1 hz2 hsum ht hI hS
     go_wp2_with (go_at_call 84; refine (HM.out _).mono ?_; rintro e w' ⟨rfl,rfl⟩)
     go_roundw
     case rel => exact ⟨j + 1,Z',H + c1 + c2,by omega,by go_num,rfl,by omega,b5,H2,(hA1.set t _).congr (fun m _ => by rw [H1.out m]; split <;> rfl),zan hR1 (by omega) _,zab hbel1 (by omega) _⟩
     case measure => simp [intOf]; omega
    ·
     obtain rfl : j = 4:=by omega
     obtain ⟨t,ht⟩ : ∃ t,t = k + 4:=⟨_,rfl⟩
     have hti : (k : Int) + 4 = (t : Int):=by omega
     have ht8 : (t : Int) < 8:=by omega
     have htz : (0 : Int) ≤ (t : Int):=by omega
     have htw : IntKind.i64.wrap (t : Int) = (t : Int):=IntWalk.i64_in _ (by omega)
     have htn : (t : Int).toNat = t:=by omega
     have c3:=hA1.cell (i:=t) (by omega)
     have f3:=hA1.frozen t
     have l1:=wd_lo Z1 t
     have l2:=wd_le Z1 t
     have ha:=fun W => add64 (wd Z1 t) c o l1 hc0 ho0 ho1 W
     obtain ⟨x,hx⟩ : ∃ x,x = (wd Z1 t + c + o) % 18446744073709551616:=⟨_,rfl⟩
     obtain ⟨o',ho'⟩ : ∃ o',o' = (wd Z1 t + c + o) / 18446744073709551616:=⟨_,rfl⟩
     rw [← hx,← ho'] at ha
     have hs : x + 18446744073709551616 * o' = wd Z1 t + c + o:=by omega
     have x0 : 0 ≤ x:=by omega
     have x1 : x ≤ 18446744073709551615:=by omega
     have o0 : 0 ≤ o':=by omega
     have o1 : o' ≤ 1:=by omega
     obtain ⟨Z2,T',hz1,hz2⟩:=shrO_step ht hlt hK.mt ht0 ht1 hc0 ho0 x0 x1 o0 hS.out hI.out HZ.out hs
     have H1:=veil hz1
     have H2:=veil hz2
     clear hz1 hz2 hs hx ho' ht hI hS hc0 hc1 l1 l2 ho0 ho1
     go_wp2_with fail
     go_roundw
     case rel => exact ⟨k + 1,Z2,T',o',by omega,by go_num,rfl,o0,o1,H2,(hA1.set t _).congr (fun m _ => by rw [H1.out m]; split <;> rfl),zan hR1 (by omega) _,zab hbel1 (by omega) _⟩
     case measure => simp [intOf]; omega
  ·
   obtain rfl : k = 4:=by omega
   obtain ⟨R,hRt,hw,hDD,hN⟩:=shr_end hK HX.out ho0 ho1 hS.out
   have c4:=hA.cell (i:=4) (by omega)
   have c5:=hA.cell (i:=5) (by omega)
   have c6:=hA.cell (i:=6) (by omega)
   have c7:=hA.cell (i:=7) (by omega)
   rw [hw 0] at c4
   rw [hw 1] at c5
   rw [hw 2] at c6
   rw [hw 3] at c7
   have hFr:=HF.out.below hbel hbs
   have hMt:=hK.mt
   have HDD:=veil hDD
   have HN:=veil hN
   have hg1:=hA.lt
   have hg2:=hR.lt
   have hg3:=hFr.lt
   clear hA hw hDD hN hS
   go_wp2_with fail
   clear c4 c5 c6 c7
   have hT : (wr.alloc (.cells #[vI vU (wd R 0),vI vU (wd R 1),vI vU (wd R 2),vI vU (wd R 3)] 25)).rowIs wr.heap.size 25 4 (fun j => .int .u64 (wd R j)):=zad (n:=4) (by simp) rfl (arr4 fun j => .int .u64 (wd R j))
   replace hR:=hR.alloc (.cells #[vI vU (wd R 0),vI vU (wd R 1),vI vU (wd R 2),vI vU (wd R 3)] 25)
   replace hFr:=hFr.alloc (.cells #[vI vU (wd R 0),vI vU (wd R 1),vI vU (wd R 2),vI vU (wd R 3)] 25)
   have hgz : w.heap.size + 1 < wr.heap.size:=hg2
   replace hbel:=hbel.alloc (by omega) (.cells #[vI vU (wd R 0),vI vU (wd R 1),vI vU (wd R 2),vI vU (wd R 3)] 25)
   generalize wr.heap.size = g at *
   generalize wr.alloc (.cells #[vI vU (wd R 0),vI vU (wd R 1),vI vU (wd R 2),vI vU (wd R 3)] 25) = wz at *
   obtain ⟨t0,t1,t2,t3⟩:=zaf hT
   obtain ⟨ft0,ft1,ft2,ft3⟩:=zaw hT
   obtain ⟨m0,m1,m2,m3⟩:=hFr.mod
   have ho : o = 0 ∨ o = 1:=by omega
   rcases ho with rfl | rfl
   ·
    by_cases hlt2 : R < M
    ·
     obtain ⟨c,hc⟩ : ∃ c,c = cmpN R M:=⟨_,rfl⟩
     have hcn : c = -1:=by rw [hc]; unfold cmpN; rw [if_pos hlt2]
     have KC:=veil (fun W => kcmp R M c hc.symm hRt hMt W)
     have HV:=veil (HN.out rfl hlt2)
     have HL:=veil hlt2
     subst hcn
     clear hc hlt2 HDD HN
     have z1:=hT.lt
     have z2:=hR.lt
     have z3:=hFr.lt
     go_region_with (go_at_call 36; refine (KC.out _).mono ?_; rintro e wm ⟨rfl,hbm⟩; have hTm:=zaa (by exact hT) hbm (by exact hT.lt); have hRm:=zaa (by exact hR) hbm (by exact hR.lt); have hFm:=Fb.below (by exact hFr) hbm (by exact hFr.lt); have hBm:=Below.trans (by first | exact hbel | exact hbel.drew) (hbm.mono (by exact hbel.size)))
     all_goals
      clear t0 t1 t2 t3 ft0 ft1 ft2 ft3 m0 m1 m2 m3 z1 z2 z3 hbm
      replace hT:=hTm
      replace hR:=hRm
      replace hFr:=hFm
      replace hbel:=hBm
      clear hTm hRm hFm hBm
      obtain ⟨t0,t1,t2,t3⟩:=zaf hT
      obtain ⟨f0,f1,f2,f3⟩:=zaw hR
      obtain ⟨d0,d1,d2,d3⟩:=zaf hR
      go_wp2
      refine bodyPost_ret (results_cell_row rfl _ _ (w.heap.size + 1) 25 #[vI vU (wd R 0),vI vU (wd R 1),vI vU (wd R 2),vI vU (wd R 3)] (0,0) _ rfl (blk4 (put4 hR fun j => .int .u64 (wd R j))) Tryd.underlying25 rfl (by kernel_rfl)) rfl ⟨⟨R,hRt,HV.out,fun _ => HL.out,rfl⟩,zap hbel (by omega) _ _ _ _⟩
    ·
     obtain ⟨c,hc⟩ : ∃ c,c = cmpN R M:=⟨_,rfl⟩
     have hcn : 0 ≤ c:=by rw [hc,cmp_ge]; exact hlt2
     have KC:=veil (fun W => kcmp R M c hc.symm hRt hMt W)
     obtain ⟨D,hD1,hD2,hD3,hD4⟩:=HDD.out (Or.inr hlt2)
     have K:=veil (fun W => ksub R M D _ hD1 rfl hRt hMt W)
     have HD:=veil (And.intro hD2 (And.intro hD3 hD4))
     clear hD1 hD2 hD3 hD4 HDD HN
     clear hc hlt2
     have z1:=hT.lt
     have z2:=hR.lt
     have z3:=hFr.lt
     go_region_with (go_at_call 36; refine (KC.out _).mono ?_; rintro e wm ⟨rfl,hbm⟩; have hTm:=zaa (by exact hT) hbm (by exact hT.lt); have hRm:=zaa (by exact hR) hbm (by exact hR.lt); have hFm:=Fb.below (by exact hFr) hbm (by exact hFr.lt); have hBm:=Below.trans (by first | exact hbel | exact hbel.drew) (hbm.mono (by exact hbel.size)))
     all_goals
      clear t0 t1 t2 t3 ft0 ft1 ft2 ft3 m0 m1 m2 m3 z1 z2 z3 hbm
      replace hT:=hTm
      replace hR:=hRm
      replace hFr:=hFm
      replace hbel:=hBm
      clear hTm hRm hFm hBm
      obtain ⟨t0,t1,t2,t3⟩:=zaf hT
      obtain ⟨ft0,ft1,ft2,ft3⟩:=zaw hT
      obtain ⟨m0,m1,m2,m3⟩:=hFr.mod
      have z1:=hT.lt
      have z2:=hR.lt
      have z3:=hFr.lt
      go_wp2_with fail
      go_region_with (go_at_call 42; refine (K.out _).mono ?_; rintro e wq ⟨rfl,hbq⟩; have hTq:=zaa (by exact hT) hbq (by exact hT.lt); have hRq:=zaa (by exact hR) hbq (by exact hR.lt); have hBq:=Below.trans (by first | exact hbel | exact hbel.drew) (hbq.mono (by exact hbel.size)); obtain ⟨q0,q1,q2,q3⟩:=zaf hTq; obtain ⟨fq0,fq1,fq2,fq3⟩:=zaw hTq)
      all_goals
       clear t0 t1 t2 t3 ft0 ft1 ft2 ft3 m0 m1 m2 m3 q0 q1 q2 q3 fq0 fq1 fq2 fq3 hbq hFr
       replace hR:=row_far4 hRq (b':=g) (by omega) (.int .u64 (wd D 0)) (.int .u64 (wd D 1)) (.int .u64 (wd D 2)) (.int .u64 (wd D 3))
       replace hT:=put4 hTq (fun j => .int .u64 (wd D j))
       replace hbel:=zap (b:=g) hBq (by omega) (.int .u64 (wd D 0)) (.int .u64 (wd D 1)) (.int .u64 (wd D 2)) (.int .u64 (wd D 3))
       clear hRq hTq hBq z1 z2 z3
       generalize ((((wq.setCell ⟨g,0,none⟩ (.int .u64 (wd D 0))).setCell ⟨g,1,none⟩ (.int .u64 (wd D 1))).setCell ⟨g,2,none⟩ (.int .u64 (wd D 2))).setCell ⟨g,3,none⟩ (.int .u64 (wd D 3))) = wp at *
       obtain ⟨t0,t1,t2,t3⟩:=zaf hT
       obtain ⟨f0,f1,f2,f3⟩:=zaw hR
       obtain ⟨d0,d1,d2,d3⟩:=zaf hR
       go_wp2
       refine bodyPost_ret (results_cell_row rfl _ _ (w.heap.size + 1) 25 #[vI vU (wd D 0),vI vU (wd D 1),vI vU (wd D 2),vI vU (wd D 3)] (0,0) _ rfl (blk4 (put4 hR fun j => .int .u64 (wd D j))) Tryd.underlying25 rfl (by kernel_rfl)) rfl ⟨⟨D,HD.out.1,HD.out.2.1,HD.out.2.2,rfl⟩,zap hbel (by omega) _ _ _ _⟩
   ·
    obtain ⟨D,hD1,hD2,hD3,hD4⟩:=HDD.out (Or.inl rfl)
    have K:=veil (fun W => ksub R M D _ hD1 rfl hRt hMt W)
    have HD:=veil (And.intro hD2 (And.intro hD3 hD4))
    clear hD1 hD2 hD3 hD4 HDD HN
    go_quiet (fail)
    replace hR:=zbz hR nq
    replace hT:=zbz hT nq
    replace hFr : Fb (wz.drewN nq) b M N Q:=zbz hFr nq
    replace hbel:=zaz hbel nq
    clear t0 t1 t2 t3 ft0 ft1 ft2 ft3 m0 m1 m2 m3
    generalize wz.drewN nq = wy at *
    obtain ⟨t0,t1,t2,t3⟩:=zaf hT
    obtain ⟨ft0,ft1,ft2,ft3⟩:=zaw hT
    obtain ⟨m0,m1,m2,m3⟩:=hFr.mod
    have z1:=hT.lt
    have z2:=hR.lt
    have z3:=hFr.lt
    go_wp2_with fail
    go_region_with (go_at_call 42; refine (K.out _).mono ?_; rintro e wq ⟨rfl,hbq⟩; have hTq:=zaa (by exact hT) hbq (by exact hT.lt); have hRq:=zaa (by exact hR) hbq (by exact hR.lt); have hBq:=Below.trans (by first | exact hbel | exact hbel.drew) (hbq.mono (by exact hbel.size)); obtain ⟨q0,q1,q2,q3⟩:=zaf hTq; obtain ⟨fq0,fq1,fq2,fq3⟩:=zaw hTq)
    all_goals
     clear t0 t1 t2 t3 ft0 ft1 ft2 ft3 m0 m1 m2 m3 q0 q1 q2 q3 fq0 fq1 fq2 fq3 hbq hFr
     replace hR:=row_far4 hRq (b':=g) (by omega) (.int .u64 (wd D 0)) (.int .u64 (wd D 1)) (.int .u64 (wd D 2)) (.int .u64 (wd D 3))
     replace hT:=put4 hTq (fun j => .int .u64 (wd D j))
     replace hbel:=zap (b:=g) hBq (by omega) (.int .u64 (wd D 0)) (.int .u64 (wd D 1)) (.int .u64 (wd D 2)) (.int .u64 (wd D 3))
     clear hRq hTq hBq z1 z2 z3
     generalize ((((wq.setCell ⟨g,0,none⟩ (.int .u64 (wd D 0))).setCell ⟨g,1,none⟩ (.int .u64 (wd D 1))).setCell ⟨g,2,none⟩ (.int .u64 (wd D 2))).setCell ⟨g,3,none⟩ (.int .u64 (wd D 3))) = wp at *
     obtain ⟨t0,t1,t2,t3⟩:=zaf hT
     obtain ⟨f0,f1,f2,f3⟩:=zaw hR
     obtain ⟨d0,d1,d2,d3⟩:=zaf hR
     go_wp2
     refine bodyPost_ret (results_cell_row rfl _ _ (w.heap.size + 1) 25 #[vI vU (wd D 0),vI vU (wd D 1),vI vU (wd D 2),vI vU (wd D 3)] (0,0) _ rfl (blk4 (put4 hR fun j => .int .u64 (wd D j))) Tryd.underlying25 rfl (by kernel_rfl)) rfl ⟨⟨D,HD.out.1,HD.out.2.1,HD.out.2.2,rfl⟩,zap hbel (by omega) _ _ _ _⟩
end Go.Proofs.YtihophdbkjhopaaDoor
