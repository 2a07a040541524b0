/-
  Of FAdd.
-/
import Derived.Test.YtmfjigcdhijkjaaGreatDoorZS1
import Derived.Test.YtmfjigcdhijkjaaGreatDoorZS13
import Derived.Test.YtmfjigcdhijkjaaGreatDoorZS11
set_option maxRecDepth 1000000
set_option maxHeartbeats 20000000
namespace Go.Proofs.YtmfjigcdhijkjaaGreatDoor
open Go.RowKit
open Go.Value renaming int → vI
open Go.IntKind renaming u64 → vU
open Go.Act renaming put → aP
open List renaming setIfInBounds_toArray → lA, set_cons_zero → lZ, set_cons_succ → lS
theorem fsum_num {X Y M : Nat} (hX : X < M) (hY : Y < M) (hM : M ≤ top) : (X + Y) % M = if top ≤ X + Y ∨ ¬ (X + Y) % top < M then ((X + Y) % top + top - M) % top else (X + Y) % top:=by
 by_cases h : top ≤ X + Y
 ·
  rw [if_pos (Or.inl h)]
  have e : (X + Y) % top = X + Y - top:=by rw [Nat.mod_eq_sub_mod h,Nat.mod_eq_of_lt (by omega)]
  rw [e,Nat.mod_eq_sub_mod (by omega),Nat.mod_eq_of_lt (by omega),Nat.mod_eq_of_lt (by omega)]; omega
 ·
  rw [Nat.mod_eq_of_lt (by omega : X + Y < top)]
  by_cases h2 : X + Y < M
  ·
   rw [if_neg (by omega),Nat.mod_eq_of_lt h2]
  ·
   rw [if_pos (Or.inr h2),Nat.mod_eq_sub_mod (by omega),Nat.mod_eq_of_lt (by omega),show X + Y + top - M = (X + Y - M) + top by omega,Nat.add_mod_right,Nat.mod_eq_of_lt (by omega)]
theorem fadd_over (b X Y M : Nat) (N : Int) (Q : Nat) (S : Nat) (hX0 : X < top) (hY0 : Y < top) (hM : M < top) (hS : (X + Y) % top = S) (hu : decide (top ≤ X + Y) = true) (D : Nat) (hD : (S + top - M) % top = D) (w : World) (hF : Fb w b M N Q) :
  Calls Tryz.prog 108 #[.pointer (some ⟨b,0,none⟩),.agg #[vI vU (wd X 0),vI vU (wd X 1),vI vU (wd X 2),vI vU (wd X 3)],.agg #[vI vU (wd Y 0),vI vU (wd Y 1),vI vU (wd Y 2),vI vU (wd Y 3)]] w fun e w' => e = .returned (.agg #[vI vU (wd D 0),vI vU (wd D 1),vI vU (wd D 2),vI vU (wd D 3)]) ∧ Below w.heap.size w w':=by
 have hSt : S < top:=by rw [← hS]; exact Nat.mod_lt _ zbu
 have K1:=veil (fun W => kadd X Y S true hS hu hX0 hY0 W)
 clear hS hu hX0 hY0
 have K:=veil (fun W => ksub S M D _ hD rfl hSt hM W)
 clear hD
 have hX : (((w.alloc (.cells #[vI vU (wd X 0),vI vU (wd X 1),vI vU (wd X 2),vI vU (wd X 3)] 24)).alloc (.cells #[vI vU (wd Y 0),vI vU (wd Y 1),vI vU (wd Y 2),vI vU (wd Y 3)] 24)).alloc (.cells #[vI vU 0,vI vU 0,vI vU 0,vI vU 0] 24)).rowIs w.heap.size 24 4 (fun j => .int .u64 (wd X j)):=((zag (n:=4) (by simp) rfl (arr4 fun j => .int .u64 (wd X j))).alloc _).alloc _
 have hY : (((w.alloc (.cells #[vI vU (wd X 0),vI vU (wd X 1),vI vU (wd X 2),vI vU (wd X 3)] 24)).alloc (.cells #[vI vU (wd Y 0),vI vU (wd Y 1),vI vU (wd Y 2),vI vU (wd Y 3)] 24)).alloc (.cells #[vI vU 0,vI vU 0,vI vU 0,vI vU 0] 24)).rowIs (w.heap.size + 1) 24 4 (fun j => .int .u64 (wd Y j)):=(zag (n:=4) (by simp) rfl (arr4 fun j => .int .u64 (wd Y j))).alloc _
 have hR : (((w.alloc (.cells #[vI vU (wd X 0),vI vU (wd X 1),vI vU (wd X 2),vI vU (wd X 3)] 24)).alloc (.cells #[vI vU (wd Y 0),vI vU (wd Y 1),vI vU (wd Y 2),vI vU (wd Y 3)] 24)).alloc (.cells #[vI vU 0,vI vU 0,vI vU 0,vI vU 0] 24)).rowIs (w.heap.size + 1 + 1) 24 4 (fun _ => .int .u64 0):=zag (n:=4) (by simp) rfl (arr4 fun _ => .int .u64 0)
 have hbel : Below w.heap.size w (((w.alloc (.cells #[vI vU (wd X 0),vI vU (wd X 1),vI vU (wd X 2),vI vU (wd X 3)] 24)).alloc (.cells #[vI vU (wd Y 0),vI vU (wd Y 1),vI vU (wd Y 2),vI vU (wd Y 3)] 24)).alloc (.cells #[vI vU 0,vI vU 0,vI vU 0,vI vU 0] 24)):=(((Below.refl _ _).alloc (by simp) _).alloc (by simp) _).alloc (by simp; omega) _
 have hFr : Fb (((w.alloc (.cells #[vI vU (wd X 0),vI vU (wd X 1),vI vU (wd X 2),vI vU (wd X 3)] 24)).alloc (.cells #[vI vU (wd Y 0),vI vU (wd Y 1),vI vU (wd Y 2),vI vU (wd Y 3)] 24)).alloc (.cells #[vI vU 0,vI vU 0,vI vU 0,vI vU 0] 24)) b M N Q:=(((hF).alloc _).alloc _).alloc _
 have hbs:=hF.lt
 clear hF
 go_enter Tryz.func108,Tryz.ntmps108
 obtain ⟨a0,a1,a2,a3⟩:=zae hX
 obtain ⟨b0,b1,b2,b3⟩:=zae hY
 go_wp2_with fail
 refine (K1.out _).mono ?_
 rintro e w1 ⟨rfl,hb1⟩
 replace hR:=zab (by exact hR) hb1 (by exact hR.lt)
 replace hFr:=Fb.below (by exact hFr) hb1 (by exact hFr.lt)
 replace hbel:=Below.trans (by first | exact hbel | exact hbel.drew) (hb1.mono (by exact hbel.size))
 clear a0 a1 a2 a3 b0 b1 b2 b3 hX hY hb1
 have hz2:=hR.lt
 have hz3:=hFr.lt
 go_wp2_with fail
 have hT : (w1.alloc (.cells #[vI vU (wd S 0),vI vU (wd S 1),vI vU (wd S 2),vI vU (wd S 3)] 24)).rowIs w1.heap.size 24 4 (fun j => .int .u64 (wd S j)):=zag (n:=4) rfl rfl (arr4 fun j => .int .u64 (wd S j))
 replace hR:=hR.alloc (.cells #[vI vU (wd S 0),vI vU (wd S 1),vI vU (wd S 2),vI vU (wd S 3)] 24)
 replace hFr:=hFr.alloc (.cells #[vI vU (wd S 0),vI vU (wd S 1),vI vU (wd S 2),vI vU (wd S 3)] 24)
 have hg1 : w.heap.size + 1 + 1 < w1.heap.size:=hz2
 have hg2 : b < w1.heap.size:=hz3
 replace hbel:=hbel.alloc (by omega) (.cells #[vI vU (wd S 0),vI vU (wd S 1),vI vU (wd S 2),vI vU (wd S 3)] 24)
 generalize w1.heap.size = g at *
 generalize w1.alloc (.cells #[vI vU (wd S 0),vI vU (wd S 1),vI vU (wd S 2),vI vU (wd S 3)] 24) = wz at *
 obtain ⟨t0,t1,t2,t3⟩:=zae hT
 obtain ⟨ft0,ft1,ft2,ft3⟩:=zaj hT
 obtain ⟨m0,m1,m2,m3⟩:=hFr.mod
 have z1:=hT.lt
 have z2:=hR.lt
 have z3:=hFr.lt
 go_quiet (fail)
 replace hR:=zbx hR nq
 replace hT:=zbx hT nq
 replace hFr : Fb (wz.drewN nq) b M N Q:=zbx hFr nq
 replace hbel:=zbm hbel nq
 clear t0 t1 t2 t3 ft0 ft1 ft2 ft3 m0 m1 m2 m3
 clear z1 z2 z3
 generalize wz.drewN nq = wy at *
 obtain ⟨t0,t1,t2,t3⟩:=zae hT
 obtain ⟨ft0,ft1,ft2,ft3⟩:=zaj hT
 obtain ⟨m0,m1,m2,m3⟩:=hFr.mod
 have z1:=hT.lt
 have z2:=hR.lt
 have z3:=hFr.lt
 go_wp2_with fail
 go_region_with (go_at_call 77; refine (K.out _).mono ?_; rintro e wq ⟨rfl,hbq⟩; replace hT:=zab (by exact hT) hbq (by exact hT.lt); replace hR:=zab (by exact hR) hbq (by exact hR.lt); replace hFr:=Fb.below (by exact hFr) hbq (by exact hFr.lt); replace hbel:=Below.trans (by first | exact hbel | exact hbel.drew) (hbq.mono (by exact hbel.size)); obtain ⟨q0,q1,q2,q3⟩:=zae hT; obtain ⟨fq0,fq1,fq2,fq3⟩:=zaj hT)
 all_goals
  clear t0 t1 t2 t3 ft0 ft1 ft2 ft3 m0 m1 m2 m3 q0 q1 q2 q3 fq0 fq1 fq2 fq3 hbq z1 z2 z3
  replace hR:=zam hR (b':=g) (by omega) (.int .u64 (wd D 0)) (.int .u64 (wd D 1)) (.int .u64 (wd D 2)) (.int .u64 (wd D 3))
  replace hFr : Fb _ b M N Q:=zam hFr (b':=g) (by omega) (.int .u64 (wd D 0)) (.int .u64 (wd D 1)) (.int .u64 (wd D 2)) (.int .u64 (wd D 3))
  replace hT:=put4 hT (fun j => .int .u64 (wd (D) j))
  replace hbel:=zap (b:=g) hbel (by omega) (.int .u64 (wd D 0)) (.int .u64 (wd D 1)) (.int .u64 (wd D 2)) (.int .u64 (wd D 3))
  generalize ((((wq.setCell ⟨g,0,none⟩ (.int .u64 (wd D 0))).setCell ⟨g,1,none⟩ (.int .u64 (wd D 1))).setCell ⟨g,2,none⟩ (.int .u64 (wd D 2))).setCell ⟨g,3,none⟩ (.int .u64 (wd D 3))) = wp at *
  clear hFr
  obtain ⟨t0,t1,t2,t3⟩:=zae hT
  obtain ⟨f0,f1,f2,f3⟩:=zaj hR
  obtain ⟨d0,d1,d2,d3⟩:=zae hR
  go_wp2
  refine bodyPost_ret (results_cell_row rfl _ _ (w.heap.size + 1 + 1) 24 #[vI vU (wd D 0),vI vU (wd D 1),vI vU (wd D 2),vI vU (wd D 3)] (0,0) _ rfl (blk4 (put4 hR fun j => .int .u64 (wd (D) j))) Tryz.underlying24 rfl (by kernel_rfl)) rfl ⟨rfl,zap hbel (by omega) _ _ _ _⟩
theorem fadd_less (b X Y M : Nat) (N : Int) (Q : Nat) (S : Nat) (hX0 : X < top) (hY0 : Y < top) (hM : M < top) (hS : (X + Y) % top = S) (hu : decide (top ≤ X + Y) = false) (hl : S < M) (w : World) (hF : Fb w b M N Q) :
  Calls Tryz.prog 108 #[.pointer (some ⟨b,0,none⟩),.agg #[vI vU (wd X 0),vI vU (wd X 1),vI vU (wd X 2),vI vU (wd X 3)],.agg #[vI vU (wd Y 0),vI vU (wd Y 1),vI vU (wd Y 2),vI vU (wd Y 3)]] w fun e w' => e = .returned (.agg #[vI vU (wd S 0),vI vU (wd S 1),vI vU (wd S 2),vI vU (wd S 3)]) ∧ Below w.heap.size w w':=by
 have hSt : S < top:=by rw [← hS]; exact Nat.mod_lt _ zbu
 have K1:=veil (fun W => kadd X Y S false hS hu hX0 hY0 W)
 clear hS hu hX0 hY0
 obtain ⟨c,hc⟩ : ∃ c,c = cmpN S M:=⟨_,rfl⟩
 have hcn : c = -1:=by rw [hc]; unfold cmpN; rw [if_pos hl]
 have KC:=veil (fun W => kcmp S M c hc.symm hSt hM W)
 subst hcn
 clear hc hl
 have hX : (((w.alloc (.cells #[vI vU (wd X 0),vI vU (wd X 1),vI vU (wd X 2),vI vU (wd X 3)] 24)).alloc (.cells #[vI vU (wd Y 0),vI vU (wd Y 1),vI vU (wd Y 2),vI vU (wd Y 3)] 24)).alloc (.cells #[vI vU 0,vI vU 0,vI vU 0,vI vU 0] 24)).rowIs w.heap.size 24 4 (fun j => .int .u64 (wd X j)):=((zag (n:=4) (by simp) rfl (arr4 fun j => .int .u64 (wd X j))).alloc _).alloc _
 have hY : (((w.alloc (.cells #[vI vU (wd X 0),vI vU (wd X 1),vI vU (wd X 2),vI vU (wd X 3)] 24)).alloc (.cells #[vI vU (wd Y 0),vI vU (wd Y 1),vI vU (wd Y 2),vI vU (wd Y 3)] 24)).alloc (.cells #[vI vU 0,vI vU 0,vI vU 0,vI vU 0] 24)).rowIs (w.heap.size + 1) 24 4 (fun j => .int .u64 (wd Y j)):=(zag (n:=4) (by simp) rfl (arr4 fun j => .int .u64 (wd Y j))).alloc _
 have hR : (((w.alloc (.cells #[vI vU (wd X 0),vI vU (wd X 1),vI vU (wd X 2),vI vU (wd X 3)] 24)).alloc (.cells #[vI vU (wd Y 0),vI vU (wd Y 1),vI vU (wd Y 2),vI vU (wd Y 3)] 24)).alloc (.cells #[vI vU 0,vI vU 0,vI vU 0,vI vU 0] 24)).rowIs (w.heap.size + 1 + 1) 24 4 (fun _ => .int .u64 0):=zag (n:=4) (by simp) rfl (arr4 fun _ => .int .u64 0)
 have hbel : Below w.heap.size w (((w.alloc (.cells #[vI vU (wd X 0),vI vU (wd X 1),vI vU (wd X 2),vI vU (wd X 3)] 24)).alloc (.cells #[vI vU (wd Y 0),vI vU (wd Y 1),vI vU (wd Y 2),vI vU (wd Y 3)] 24)).alloc (.cells #[vI vU 0,vI vU 0,vI vU 0,vI vU 0] 24)):=(((Below.refl _ _).alloc (by simp) _).alloc (by simp) _).alloc (by simp; omega) _
 have hFr : Fb (((w.alloc (.cells #[vI vU (wd X 0),vI vU (wd X 1),vI vU (wd X 2),vI vU (wd X 3)] 24)).alloc (.cells #[vI vU (wd Y 0),vI vU (wd Y 1),vI vU (wd Y 2),vI vU (wd Y 3)] 24)).alloc (.cells #[vI vU 0,vI vU 0,vI vU 0,vI vU 0] 24)) b M N Q:=(((hF).alloc _).alloc _).alloc _
 have hbs:=hF.lt
 clear hF
 go_enter Tryz.func108,Tryz.ntmps108
 obtain ⟨a0,a1,a2,a3⟩:=zae hX
 obtain ⟨b0,b1,b2,b3⟩:=zae hY
 go_wp2_with fail
 refine (K1.out _).mono ?_
 rintro e w1 ⟨rfl,hb1⟩
 replace hR:=zab (by exact hR) hb1 (by exact hR.lt)
 replace hFr:=Fb.below (by exact hFr) hb1 (by exact hFr.lt)
 replace hbel:=Below.trans (by first | exact hbel | exact hbel.drew) (hb1.mono (by exact hbel.size))
 clear a0 a1 a2 a3 b0 b1 b2 b3 hX hY hb1
 have hz2:=hR.lt
 have hz3:=hFr.lt
 go_wp2_with fail
 have hT : (w1.alloc (.cells #[vI vU (wd S 0),vI vU (wd S 1),vI vU (wd S 2),vI vU (wd S 3)] 24)).rowIs w1.heap.size 24 4 (fun j => .int .u64 (wd S j)):=zag (n:=4) rfl rfl (arr4 fun j => .int .u64 (wd S j))
 replace hR:=hR.alloc (.cells #[vI vU (wd S 0),vI vU (wd S 1),vI vU (wd S 2),vI vU (wd S 3)] 24)
 replace hFr:=hFr.alloc (.cells #[vI vU (wd S 0),vI vU (wd S 1),vI vU (wd S 2),vI vU (wd S 3)] 24)
 have hg1 : w.heap.size + 1 + 1 < w1.heap.size:=hz2
 have hg2 : b < w1.heap.size:=hz3
 replace hbel:=hbel.alloc (by omega) (.cells #[vI vU (wd S 0),vI vU (wd S 1),vI vU (wd S 2),vI vU (wd S 3)] 24)
 generalize w1.heap.size = g at *
 generalize w1.alloc (.cells #[vI vU (wd S 0),vI vU (wd S 1),vI vU (wd S 2),vI vU (wd S 3)] 24) = wz at *
 obtain ⟨t0,t1,t2,t3⟩:=zae hT
 obtain ⟨ft0,ft1,ft2,ft3⟩:=zaj hT
 obtain ⟨m0,m1,m2,m3⟩:=hFr.mod
 have z1:=hT.lt
 have z2:=hR.lt
 have z3:=hFr.lt
 go_region_with (go_at_call 46; refine (KC.out _).mono ?_; rintro e wm ⟨rfl,hbm⟩; replace hT:=zab (by exact hT) hbm (by exact hT.lt); replace hR:=zab (by exact hR) hbm (by exact hR.lt); replace hFr:=Fb.below (by exact hFr) hbm (by exact hFr.lt); replace hbel:=Below.trans (by first | exact hbel | exact hbel.drew) (hbm.mono (by exact hbel.size)))
 all_goals
  clear t0 t1 t2 t3 ft0 ft1 ft2 ft3 m0 m1 m2 m3
  clear z1 z2 z3 hbm
  obtain ⟨t0,t1,t2,t3⟩:=zae hT
  obtain ⟨f0,f1,f2,f3⟩:=zaj hR
  obtain ⟨d0,d1,d2,d3⟩:=zae hR
  go_wp2
  refine bodyPost_ret (results_cell_row rfl _ _ (w.heap.size + 1 + 1) 24 #[vI vU (wd S 0),vI vU (wd S 1),vI vU (wd S 2),vI vU (wd S 3)] (0,0) _ rfl (blk4 (put4 hR fun j => .int .u64 (wd (S) j))) Tryz.underlying24 rfl (by kernel_rfl)) rfl ⟨rfl,zap hbel (by omega) _ _ _ _⟩
theorem fadd_more (b X Y M : Nat) (N : Int) (Q : Nat) (S : Nat) (hX0 : X < top) (hY0 : Y < top) (hM : M < top) (hS : (X + Y) % top = S) (hu : decide (top ≤ X + Y) = false) (hl : ¬ S < M) (D : Nat) (hD : (S + top - M) % top = D) (w : World) (hF : Fb w b M N Q) :
  Calls Tryz.prog 108 #[.pointer (some ⟨b,0,none⟩),.agg #[vI vU (wd X 0),vI vU (wd X 1),vI vU (wd X 2),vI vU (wd X 3)],.agg #[vI vU (wd Y 0),vI vU (wd Y 1),vI vU (wd Y 2),vI vU (wd Y 3)]] w fun e w' => e = .returned (.agg #[vI vU (wd D 0),vI vU (wd D 1),vI vU (wd D 2),vI vU (wd D 3)]) ∧ Below w.heap.size w w':=by
 have hSt : S < top:=by rw [← hS]; exact Nat.mod_lt _ zbu
 have K1:=veil (fun W => kadd X Y S false hS hu hX0 hY0 W)
 clear hS hu hX0 hY0
 obtain ⟨c,hc⟩ : ∃ c,c = cmpN S M:=⟨_,rfl⟩
 have hcn : 0 ≤ c:=by rw [hc,cmp_ge]; exact hl
 have KC:=veil (fun W => kcmp S M c hc.symm hSt hM W)
 have K:=veil (fun W => ksub S M D _ hD rfl hSt hM W)
 clear hc hl hD
 have hX : (((w.alloc (.cells #[vI vU (wd X 0),vI vU (wd X 1),vI vU (wd X 2),vI vU (wd X 3)] 24)).alloc (.cells #[vI vU (wd Y 0),vI vU (wd Y 1),vI vU (wd Y 2),vI vU (wd Y 3)] 24)).alloc (.cells #[vI vU 0,vI vU 0,vI vU 0,vI vU 0] 24)).rowIs w.heap.size 24 4 (fun j => .int .u64 (wd X j)):=((zag (n:=4) (by simp) rfl (arr4 fun j => .int .u64 (wd X j))).alloc _).alloc _
 have hY : (((w.alloc (.cells #[vI vU (wd X 0),vI vU (wd X 1),vI vU (wd X 2),vI vU (wd X 3)] 24)).alloc (.cells #[vI vU (wd Y 0),vI vU (wd Y 1),vI vU (wd Y 2),vI vU (wd Y 3)] 24)).alloc (.cells #[vI vU 0,vI vU 0,vI vU 0,vI vU 0] 24)).rowIs (w.heap.size + 1) 24 4 (fun j => .int .u64 (wd Y j)):=(zag (n:=4) (by simp) rfl (arr4 fun j => .int .u64 (wd Y j))).alloc _
 have hR : (((w.alloc (.cells #[vI vU (wd X 0),vI vU (wd X 1),vI vU (wd X 2),vI vU (wd X 3)] 24)).alloc (.cells #[vI vU (wd Y 0),vI vU (wd Y 1),vI vU (wd Y 2),vI vU (wd Y 3)] 24)).alloc (.cells #[vI vU 0,vI vU 0,vI vU 0,vI vU 0] 24)).rowIs (w.heap.size + 1 + 1) 24 4 (fun _ => .int .u64 0):=zag (n:=4) (by simp) rfl (arr4 fun _ => .int .u64 0)
 have hbel : Below w.heap.size w (((w.alloc (.cells #[vI vU (wd X 0),vI vU (wd X 1),vI vU (wd X 2),vI vU (wd X 3)] 24)).alloc (.cells #[vI vU (wd Y 0),vI vU (wd Y 1),vI vU (wd Y 2),vI vU (wd Y 3)] 24)).alloc (.cells #[vI vU 0,vI vU 0,vI vU 0,vI vU 0] 24)):=(((Below.refl _ _).alloc (by simp) _).alloc (by simp) _).alloc (by simp; omega) _
 have hFr : Fb (((w.alloc (.cells #[vI vU (wd X 0),vI vU (wd X 1),vI vU (wd X 2),vI vU (wd X 3)] 24)).alloc (.cells #[vI vU (wd Y 0),vI vU (wd Y 1),vI vU (wd Y 2),vI vU (wd Y 3)] 24)).alloc (.cells #[vI vU 0,vI vU 0,vI vU 0,vI vU 0] 24)) b M N Q:=(((hF).alloc _).alloc _).alloc _
 have hbs:=hF.lt
 clear hF
 go_enter Tryz.func108,Tryz.ntmps108
 obtain ⟨a0,a1,a2,a3⟩:=zae hX
 obtain ⟨b0,b1,b2,b3⟩:=zae hY
 go_wp2_with fail
 refine (K1.out _).mono ?_
 rintro e w1 ⟨rfl,hb1⟩
 replace hR:=zab (by exact hR) hb1 (by exact hR.lt)
 replace hFr:=Fb.below (by exact hFr) hb1 (by exact hFr.lt)
 replace hbel:=Below.trans (by first | exact hbel | exact hbel.drew) (hb1.mono (by exact hbel.size))
 clear a0 a1 a2 a3 b0 b1 b2 b3 hX hY hb1
 have hz2:=hR.lt
 have hz3:=hFr.lt
 go_wp2_with fail
 have hT : (w1.alloc (.cells #[vI vU (wd S 0),vI vU (wd S 1),vI vU (wd S 2),vI vU (wd S 3)] 24)).rowIs w1.heap.size 24 4 (fun j => .int .u64 (wd S j)):=zag (n:=4) rfl rfl (arr4 fun j => .int .u64 (wd S j))
 replace hR:=hR.alloc (.cells #[vI vU (wd S 0),vI vU (wd S 1),vI vU (wd S 2),vI vU (wd S 3)] 24)
 replace hFr:=hFr.alloc (.cells #[vI vU (wd S 0),vI vU (wd S 1),vI vU (wd S 2),vI vU (wd S 3)] 24)
 have hg1 : w.heap.size + 1 + 1 < w1.heap.size:=hz2
 have hg2 : b < w1.heap.size:=hz3
 replace hbel:=hbel.alloc (by omega) (.cells #[vI vU (wd S 0),vI vU (wd S 1),vI vU (wd S 2),vI vU (wd S 3)] 24)
 generalize w1.heap.size = g at *
 generalize w1.alloc (.cells #[vI vU (wd S 0),vI vU (wd S 1),vI vU (wd S 2),vI vU (wd S 3)] 24) = wz at *
 obtain ⟨t0,t1,t2,t3⟩:=zae hT
 obtain ⟨ft0,ft1,ft2,ft3⟩:=zaj hT
 obtain ⟨m0,m1,m2,m3⟩:=hFr.mod
 have z1:=hT.lt
 have z2:=hR.lt
 have z3:=hFr.lt
 go_region_with (go_at_call 46; refine (KC.out _).mono ?_; rintro e wm ⟨rfl,hbm⟩; replace hT:=zab (by exact hT) hbm (by exact hT.lt); replace hR:=zab (by exact hR) hbm (by exact hR.lt); replace hFr:=Fb.below (by exact hFr) hbm (by exact hFr.lt); replace hbel:=Below.trans (by first | exact hbel | exact hbel.drew) (hbm.mono (by exact hbel.size)))
 all_goals
  clear t0 t1 t2 t3 ft0 ft1 ft2 ft3 m0 m1 m2 m3
  clear z1 z2 z3 hbm
  obtain ⟨t0,t1,t2,t3⟩:=zae hT
  obtain ⟨ft0,ft1,ft2,ft3⟩:=zaj hT
  obtain ⟨m0,m1,m2,m3⟩:=hFr.mod
  have z1:=hT.lt
  have z2:=hR.lt
  have z3:=hFr.lt
  go_wp2_with fail
  go_region_with (go_at_call 77; refine (K.out _).mono ?_; rintro e wq ⟨rfl,hbq⟩; replace hT:=zab (by exact hT) hbq (by exact hT.lt); replace hR:=zab (by exact hR) hbq (by exact hR.lt); replace hFr:=Fb.below (by exact hFr) hbq (by exact hFr.lt); replace hbel:=Below.trans (by first | exact hbel | exact hbel.drew) (hbq.mono (by exact hbel.size)); obtain ⟨q0,q1,q2,q3⟩:=zae hT; obtain ⟨fq0,fq1,fq2,fq3⟩:=zaj hT)
  all_goals
   clear t0 t1 t2 t3 ft0 ft1 ft2 ft3 m0 m1 m2 m3 q0 q1 q2 q3 fq0 fq1 fq2 fq3 hbq z1 z2 z3
   replace hR:=zam hR (b':=g) (by omega) (.int .u64 (wd D 0)) (.int .u64 (wd D 1)) (.int .u64 (wd D 2)) (.int .u64 (wd D 3))
   replace hFr : Fb _ b M N Q:=zam hFr (b':=g) (by omega) (.int .u64 (wd D 0)) (.int .u64 (wd D 1)) (.int .u64 (wd D 2)) (.int .u64 (wd D 3))
   replace hT:=put4 hT (fun j => .int .u64 (wd (D) j))
   replace hbel:=zap (b:=g) hbel (by omega) (.int .u64 (wd D 0)) (.int .u64 (wd D 1)) (.int .u64 (wd D 2)) (.int .u64 (wd D 3))
   generalize ((((wq.setCell ⟨g,0,none⟩ (.int .u64 (wd D 0))).setCell ⟨g,1,none⟩ (.int .u64 (wd D 1))).setCell ⟨g,2,none⟩ (.int .u64 (wd D 2))).setCell ⟨g,3,none⟩ (.int .u64 (wd D 3))) = wp at *
   clear hFr
   obtain ⟨t0,t1,t2,t3⟩:=zae hT
   obtain ⟨f0,f1,f2,f3⟩:=zaj hR
   obtain ⟨d0,d1,d2,d3⟩:=zae hR
   go_wp2
   refine bodyPost_ret (results_cell_row rfl _ _ (w.heap.size + 1 + 1) 24 #[vI vU (wd D 0),vI vU (wd D 1),vI vU (wd D 2),vI vU (wd D 3)] (0,0) _ rfl (blk4 (put4 hR fun j => .int .u64 (wd (D) j))) Tryz.underlying24 rfl (by kernel_rfl)) rfl ⟨rfl,zap hbel (by omega) _ _ _ _⟩
theorem fadd_calls (b X Y M : Nat) (N : Int) (Q Z : Nat) (hX : X < M) (hY : Y < M) (hM : M < top) (hZ : (X + Y) % M = Z) (w : World) (hF : Fb w b M N Q) :
  Calls Tryz.prog 108 #[.pointer (some ⟨b,0,none⟩),.agg #[vI vU (wd X 0),vI vU (wd X 1),vI vU (wd X 2),vI vU (wd X 3)],.agg #[vI vU (wd Y 0),vI vU (wd Y 1),vI vU (wd Y 2),vI vU (wd Y 3)]] w fun e w' => e = .returned (.agg #[vI vU (wd Z 0),vI vU (wd Z 1),vI vU (wd Z 2),vI vU (wd Z 3)]) ∧ Below w.heap.size w w':=by
 have e:=fsum_num hX hY (by omega)
 rw [hZ] at e
 by_cases h : top ≤ X + Y
 ·
  rw [if_pos (Or.inl h)] at e
  exact fadd_over b X Y M N Q _ (by omega) (by omega) hM rfl (by simpa using h) Z e.symm w hF
 ·
  by_cases h2 : (X + Y) % top < M
  ·
   rw [if_neg (by rintro (a | a) <;> contradiction)] at e
   rw [e]
   exact fadd_less b X Y M N Q _ (by omega) (by omega) hM rfl (by simpa using h) h2 w hF
  ·
   rw [if_pos (Or.inr h2)] at e
   exact fadd_more b X Y M N Q _ (by omega) (by omega) hM rfl (by simpa using h) h2 Z e.symm w hF
end Go.Proofs.YtmfjigcdhijkjaaGreatDoor
