/-
  Of FAdd.
-/
import Derived.Test.YtmfjigcdhijkjaaDoorZB1
import Derived.Test.YtmfjigcdhijkjaaDoorZB17
import Derived.Test.YtmfjigcdhijkjaaDoorZB14
set_option maxRecDepth 1000000
set_option maxHeartbeats 20000000
namespace Go.Proofs.YtmfjigcdhijkjaaDoor
open Go.RowKit
open Go.Act renaming put → aP
open List renaming setIfInBounds_toArray → lA, set_cons_zero → lZ, set_cons_succ → lS
theorem fsum_num {X Y M : Nat} (hX : X < M) (hY : Y < M) (hM : M ≤ top) : (X + Y) % M = if top ≤ X + Y ∨ ¬ (X + Y) % top < M then ((X + Y) % top + top - M) % top else (X + Y) % top:=by
 by_cases h : top ≤ X + Y
 ·
  rw [if_pos (Or.inl h)]
  have e : (X + Y) % top = X + Y - top:=by rw [Nat.mod_eq_sub_mod h,Nat.mod_eq_of_lt (by omega)]
  rw [e,Nat.mod_eq_sub_mod (by omega),Nat.mod_eq_of_lt (by omega),Nat.mod_eq_of_lt (by omega)]; omega
 ·
  rw [Nat.mod_eq_of_lt (by omega : X + Y < top)]
  by_cases h2 : X + Y < M
  ·
   rw [if_neg (by omega),Nat.mod_eq_of_lt h2]
  ·
   rw [if_pos (Or.inr h2),Nat.mod_eq_sub_mod (by omega),Nat.mod_eq_of_lt (by omega),show X + Y + top - M = (X + Y - M) + top by omega,Nat.add_mod_right,Nat.mod_eq_of_lt (by omega)]
theorem fadd_over (b X Y M : Nat) (N : Int) (Q : Nat) (S : Nat) (hX0 : X < top) (hY0 : Y < top) (hM : M < top) (hS : (X + Y) % top = S) (hu : decide (top ≤ X + Y) = true) (D : Nat) (hD : (S + top - M) % top = D) (w : World) (hF : Fb w b M N Q) :
  Calls Tryd.prog 83 #[.pointer (some ⟨b,0,none⟩),.agg #[.int .u64 (wd X 0),.int .u64 (wd X 1),.int .u64 (wd X 2),.int .u64 (wd X 3)],.agg #[.int .u64 (wd Y 0),.int .u64 (wd Y 1),.int .u64 (wd Y 2),.int .u64 (wd Y 3)]] w fun e w' => e = .returned (.agg #[.int .u64 (wd D 0),.int .u64 (wd D 1),.int .u64 (wd D 2),.int .u64 (wd D 3)]) ∧ Below w.heap.size w w':=by
 have hSt : S < top:=by rw [← hS]; exact Nat.mod_lt _ zcp
 have K1:=veil (fun W => kadd X Y S true hS hu hX0 hY0 W)
 clear hS hu hX0 hY0
 have K:=veil (fun W => ksub S M D _ hD rfl hSt hM W)
 clear hD
 have hX : (((w.alloc (.cells #[.int .u64 (wd X 0),.int .u64 (wd X 1),.int .u64 (wd X 2),.int .u64 (wd X 3)] 24)).alloc (.cells #[.int .u64 (wd Y 0),.int .u64 (wd Y 1),.int .u64 (wd Y 2),.int .u64 (wd Y 3)] 24)).alloc (.cells #[.int .u64 0,.int .u64 0,.int .u64 0,.int .u64 0] 24)).rowIs w.heap.size 24 4 (fun j => .int .u64 (wd X j)):=((zap (n:=4) (by simp) rfl (arr4 fun j => .int .u64 (wd X j))).alloc _).alloc _
 have hY : (((w.alloc (.cells #[.int .u64 (wd X 0),.int .u64 (wd X 1),.int .u64 (wd X 2),.int .u64 (wd X 3)] 24)).alloc (.cells #[.int .u64 (wd Y 0),.int .u64 (wd Y 1),.int .u64 (wd Y 2),.int .u64 (wd Y 3)] 24)).alloc (.cells #[.int .u64 0,.int .u64 0,.int .u64 0,.int .u64 0] 24)).rowIs (w.heap.size + 1) 24 4 (fun j => .int .u64 (wd Y j)):=(zap (n:=4) (by simp) rfl (arr4 fun j => .int .u64 (wd Y j))).alloc _
 have hR : (((w.alloc (.cells #[.int .u64 (wd X 0),.int .u64 (wd X 1),.int .u64 (wd X 2),.int .u64 (wd X 3)] 24)).alloc (.cells #[.int .u64 (wd Y 0),.int .u64 (wd Y 1),.int .u64 (wd Y 2),.int .u64 (wd Y 3)] 24)).alloc (.cells #[.int .u64 0,.int .u64 0,.int .u64 0,.int .u64 0] 24)).rowIs (w.heap.size + 1 + 1) 24 4 (fun _ => .int .u64 0):=zap (n:=4) (by simp) rfl (arr4 fun _ => .int .u64 0)
 have hbel : Below w.heap.size w (((w.alloc (.cells #[.int .u64 (wd X 0),.int .u64 (wd X 1),.int .u64 (wd X 2),.int .u64 (wd X 3)] 24)).alloc (.cells #[.int .u64 (wd Y 0),.int .u64 (wd Y 1),.int .u64 (wd Y 2),.int .u64 (wd Y 3)] 24)).alloc (.cells #[.int .u64 0,.int .u64 0,.int .u64 0,.int .u64 0] 24)):=(((Below.refl _ _).alloc (by simp) _).alloc (by simp) _).alloc (by simp; omega) _
 have hFr : Fb (((w.alloc (.cells #[.int .u64 (wd X 0),.int .u64 (wd X 1),.int .u64 (wd X 2),.int .u64 (wd X 3)] 24)).alloc (.cells #[.int .u64 (wd Y 0),.int .u64 (wd Y 1),.int .u64 (wd Y 2),.int .u64 (wd Y 3)] 24)).alloc (.cells #[.int .u64 0,.int .u64 0,.int .u64 0,.int .u64 0] 24)) b M N Q:=(((hF).alloc _).alloc _).alloc _
 have hbs:=hF.lt
 clear hF
 go_enter Tryd.func83,Tryd.ntmps83
 obtain ⟨a0,a1,a2,a3⟩:=zan hX
 obtain ⟨b0,b1,b2,b3⟩:=zan hY
 go_wp2_with fail
 refine (K1.out _).mono ?_
 rintro e w1 ⟨rfl,hb1⟩
 replace hR:=zak (by exact hR) hb1 (by exact hR.lt)
 replace hFr:=Fb.below (by exact hFr) hb1 (by exact hFr.lt)
 replace hbel:=Below.trans (by first | exact hbel | exact hbel.drew) (hb1.mono (by exact hbel.size))
 clear a0 a1 a2 a3 b0 b1 b2 b3 hX hY hb1
 have hz2:=hR.lt
 have hz3:=hFr.lt
 go_wp2_with fail
 have hT : (w1.alloc (.cells #[.int .u64 (wd S 0),.int .u64 (wd S 1),.int .u64 (wd S 2),.int .u64 (wd S 3)] 24)).rowIs w1.heap.size 24 4 (fun j => .int .u64 (wd S j)):=zap (n:=4) rfl rfl (arr4 fun j => .int .u64 (wd S j))
 replace hR:=hR.alloc (.cells #[.int .u64 (wd S 0),.int .u64 (wd S 1),.int .u64 (wd S 2),.int .u64 (wd S 3)] 24)
 replace hFr:=hFr.alloc (.cells #[.int .u64 (wd S 0),.int .u64 (wd S 1),.int .u64 (wd S 2),.int .u64 (wd S 3)] 24)
 have hg1 : w.heap.size + 1 + 1 < w1.heap.size:=hz2
 have hg2 : b < w1.heap.size:=hz3
 replace hbel:=hbel.alloc (by omega) (.cells #[.int .u64 (wd S 0),.int .u64 (wd S 1),.int .u64 (wd S 2),.int .u64 (wd S 3)] 24)
 generalize w1.heap.size = g at *
 generalize w1.alloc (.cells #[.int .u64 (wd S 0),.int .u64 (wd S 1),.int .u64 (wd S 2),.int .u64 (wd S 3)] 24) = wz at *
 obtain ⟨t0,t1,t2,t3⟩:=zan hT
 obtain ⟨ft0,ft1,ft2,ft3⟩:=zay hT
 obtain ⟨m0,m1,m2,m3⟩:=hFr.mod
 have z1:=hT.lt
 have z2:=hR.lt
 have z3:=hFr.lt
 go_quiet (fail)
 replace hR:=zcq hR nq
 replace hT:=zcq hT nq
 replace hFr : Fb (wz.drewN nq) b M N Q:=zcq hFr nq
 replace hbel:=zbt hbel nq
 clear t0 t1 t2 t3 ft0 ft1 ft2 ft3 m0 m1 m2 m3
 clear z1 z2 z3
 generalize wz.drewN nq = wy at *
 obtain ⟨t0,t1,t2,t3⟩:=zan hT
 obtain ⟨ft0,ft1,ft2,ft3⟩:=zay hT
 obtain ⟨m0,m1,m2,m3⟩:=hFr.mod
 have z1:=hT.lt
 have z2:=hR.lt
 have z3:=hFr.lt
 go_wp2_with fail
 go_region_with (go_at_call 62; refine (K.out _).mono ?_; rintro e wq ⟨rfl,hbq⟩; replace hT:=zak (by exact hT) hbq (by exact hT.lt); replace hR:=zak (by exact hR) hbq (by exact hR.lt); replace hFr:=Fb.below (by exact hFr) hbq (by exact hFr.lt); replace hbel:=Below.trans (by first | exact hbel | exact hbel.drew) (hbq.mono (by exact hbel.size)); obtain ⟨q0,q1,q2,q3⟩:=zan hT; obtain ⟨fq0,fq1,fq2,fq3⟩:=zay hT)
 all_goals
  clear t0 t1 t2 t3 ft0 ft1 ft2 ft3 m0 m1 m2 m3 q0 q1 q2 q3 fq0 fq1 fq2 fq3 hbq z1 z2 z3
  replace hR:=zbc hR (b':=g) (by omega) (.int .u64 (wd D 0)) (.int .u64 (wd D 1)) (.int .u64 (wd D 2)) (.int .u64 (wd D 3))
  replace hFr : Fb _ b M N Q:=zbc hFr (b':=g) (by omega) (.int .u64 (wd D 0)) (.int .u64 (wd D 1)) (.int .u64 (wd D 2)) (.int .u64 (wd D 3))
  replace hT:=put4 hT (fun j => .int .u64 (wd (D) j))
  replace hbel:=zat (b:=g) hbel (by omega) (.int .u64 (wd D 0)) (.int .u64 (wd D 1)) (.int .u64 (wd D 2)) (.int .u64 (wd D 3))
  generalize ((((wq.setCell ⟨g,0,none⟩ (.int .u64 (wd D 0))).setCell ⟨g,1,none⟩ (.int .u64 (wd D 1))).setCell ⟨g,2,none⟩ (.int .u64 (wd D 2))).setCell ⟨g,3,none⟩ (.int .u64 (wd D 3))) = wp at *
  clear hFr
  obtain ⟨t0,t1,t2,t3⟩:=zan hT
  obtain ⟨f0,f1,f2,f3⟩:=zay hR
  obtain ⟨d0,d1,d2,d3⟩:=zan hR
  go_wp2
  refine bodyPost_ret (results_cell_row rfl _ _ (w.heap.size + 1 + 1) 24 #[.int .u64 (wd D 0),.int .u64 (wd D 1),.int .u64 (wd D 2),.int .u64 (wd D 3)] (0,0) _ rfl (blk4 (put4 hR fun j => .int .u64 (wd (D) j))) Tryd.underlying24 rfl (by kernel_rfl)) rfl ⟨rfl,zat hbel (by omega) _ _ _ _⟩
theorem fadd_less (b X Y M : Nat) (N : Int) (Q : Nat) (S : Nat) (hX0 : X < top) (hY0 : Y < top) (hM : M < top) (hS : (X + Y) % top = S) (hu : decide (top ≤ X + Y) = false) (hl : S < M) (w : World) (hF : Fb w b M N Q) :
  Calls Tryd.prog 83 #[.pointer (some ⟨b,0,none⟩),.agg #[.int .u64 (wd X 0),.int .u64 (wd X 1),.int .u64 (wd X 2),.int .u64 (wd X 3)],.agg #[.int .u64 (wd Y 0),.int .u64 (wd Y 1),.int .u64 (wd Y 2),.int .u64 (wd Y 3)]] w fun e w' => e = .returned (.agg #[.int .u64 (wd S 0),.int .u64 (wd S 1),.int .u64 (wd S 2),.int .u64 (wd S 3)]) ∧ Below w.heap.size w w':=by
 have hSt : S < top:=by rw [← hS]; exact Nat.mod_lt _ zcp
 have K1:=veil (fun W => kadd X Y S false hS hu hX0 hY0 W)
 clear hS hu hX0 hY0
 obtain ⟨c,hc⟩ : ∃ c,c = cmpN S M:=⟨_,rfl⟩
 have hcn : c = -1:=by rw [hc]; unfold cmpN; rw [if_pos hl]
 have KC:=veil (fun W => kcmp S M c hc.symm hSt hM W)
 subst hcn
 clear hc hl
 have hX : (((w.alloc (.cells #[.int .u64 (wd X 0),.int .u64 (wd X 1),.int .u64 (wd X 2),.int .u64 (wd X 3)] 24)).alloc (.cells #[.int .u64 (wd Y 0),.int .u64 (wd Y 1),.int .u64 (wd Y 2),.int .u64 (wd Y 3)] 24)).alloc (.cells #[.int .u64 0,.int .u64 0,.int .u64 0,.int .u64 0] 24)).rowIs w.heap.size 24 4 (fun j => .int .u64 (wd X j)):=((zap (n:=4) (by simp) rfl (arr4 fun j => .int .u64 (wd X j))).alloc _).alloc _
 have hY : (((w.alloc (.cells #[.int .u64 (wd X 0),.int .u64 (wd X 1),.int .u64 (wd X 2),.int .u64 (wd X 3)] 24)).alloc (.cells #[.int .u64 (wd Y 0),.int .u64 (wd Y 1),.int .u64 (wd Y 2),.int .u64 (wd Y 3)] 24)).alloc (.cells #[.int .u64 0,.int .u64 0,.int .u64 0,.int .u64 0] 24)).rowIs (w.heap.size + 1) 24 4 (fun j => .int .u64 (wd Y j)):=(zap (n:=4) (by simp) rfl (arr4 fun j => .int .u64 (wd Y j))).alloc _
 have hR : (((w.alloc (.cells #[.int .u64 (wd X 0),.int .u64 (wd X 1),.int .u64 (wd X 2),.int .u64 (wd X 3)] 24)).alloc (.cells #[.int .u64 (wd Y 0),.int .u64 (wd Y 1),.int .u64 (wd Y 2),.int .u64 (wd Y 3)] 24)).alloc (.cells #[.int .u64 0,.int .u64 0,.int .u64 0,.int .u64 0] 24)).rowIs (w.heap.size + 1 + 1) 24 4 (fun _ => .int .u64 0):=zap (n:=4) (by simp) rfl (arr4 fun _ => .int .u64 0)
 have hbel : Below w.heap.size w (((w.alloc (.cells #[.int .u64 (wd X 0),.int .u64 (wd X 1),.int .u64 (wd X 2),.int .u64 (wd X 3)] 24)).alloc (.cells #[.int .u64 (wd Y 0),.int .u64 (wd Y 1),.int .u64 (wd Y 2),.int .u64 (wd Y 3)] 24)).alloc (.cells #[.int .u64 0,.int .u64 0,.int .u64 0,.int .u64 0] 24)):=(((Below.refl _ _).alloc (by simp) _).alloc (by simp) _).alloc (by simp; omega) _
 have hFr : Fb (((w.alloc (.cells #[.int .u64 (wd X 0),.int .u64 (wd X 1),.int .u64 (wd X 2),.int .u64 (wd X 3)] 24)).alloc (.cells #[.int .u64 (wd Y 0),.int .u64 (wd Y 1),.int .u64 (wd Y 2),.int .u64 (wd Y 3)] 24)).alloc (.cells #[.int .u64 0,.int .u64 0,.int .u64 0,.int .u64 0] 24)) b M N Q:=(((hF).alloc _).alloc _).alloc _
 have hbs:=hF.lt
 clear hF
 go_enter Tryd.func83,Tryd.ntmps83
 obtain ⟨a0,a1,a2,a3⟩:=zan hX
 obtain ⟨b0,b1,b2,b3⟩:=zan hY
 go_wp2_with fail
 refine (K1.out _).mono ?_
 rintro e w1 ⟨rfl,hb1⟩
 replace hR:=zak (by exact hR) hb1 (by exact hR.lt)
 replace hFr:=Fb.below (by exact hFr) hb1 (by exact hFr.lt)
 replace hbel:=Below.trans (by first | exact hbel | exact hbel.drew) (hb1.mono (by exact hbel.size))
 clear a0 a1 a2 a3 b0 b1 b2 b3 hX hY hb1
 have hz2:=hR.lt
 have hz3:=hFr.lt
 go_wp2_with fail
 have hT : (w1.alloc (.cells #[.int .u64 (wd S 0),.int .u64 (wd S 1),.int .u64 (wd S 2),.int .u64 (wd S 3)] 24)).rowIs w1.heap.size 24 4 (fun j => .int .u64 (wd S j)):=zap (n:=4) rfl rfl (arr4 fun j => .int .u64 (wd S j))
 replace hR:=hR.alloc (.cells #[.int .u64 (wd S 0),.int .u64 (wd S 1),.int .u64 (wd S 2),.int .u64 (wd S 3)] 24)
 replace hFr:=hFr.alloc (.cells #[.int .u64 (wd S 0),.int .u64 (wd S 1),.int .u64 (wd S 2),.int .u64 (wd S 3)] 24)
 have hg1 : w.heap.size + 1 + 1 < w1.heap.size:=hz2
 have hg2 : b < w1.heap.size:=hz3
 replace hbel:=hbel.alloc (by omega) (.cells #[.int .u64 (wd S 0),.int .u64 (wd S 1),.int .u64 (wd S 2),.int .u64 (wd S 3)] 24)
 generalize w1.heap.size = g at *
 generalize w1.alloc (.cells #[.int .u64 (wd S 0),.int .u64 (wd S 1),.int .u64 (wd S 2),.int .u64 (wd S 3)] 24) = wz at *
 obtain ⟨t0,t1,t2,t3⟩:=zan hT
 obtain ⟨ft0,ft1,ft2,ft3⟩:=zay hT
 obtain ⟨m0,m1,m2,m3⟩:=hFr.mod
 have z1:=hT.lt
 have z2:=hR.lt
 have z3:=hFr.lt
 go_region_with (go_at_call 47; refine (KC.out _).mono ?_; rintro e wm ⟨rfl,hbm⟩; replace hT:=zak (by exact hT) hbm (by exact hT.lt); replace hR:=zak (by exact hR) hbm (by exact hR.lt); replace hFr:=Fb.below (by exact hFr) hbm (by exact hFr.lt); replace hbel:=Below.trans (by first | exact hbel | exact hbel.drew) (hbm.mono (by exact hbel.size)))
 all_goals
  clear t0 t1 t2 t3 ft0 ft1 ft2 ft3 m0 m1 m2 m3
  clear z1 z2 z3 hbm
  obtain ⟨t0,t1,t2,t3⟩:=zan hT
  obtain ⟨f0,f1,f2,f3⟩:=zay hR
  obtain ⟨d0,d1,d2,d3⟩:=zan hR
  go_wp2
  refine bodyPost_ret (results_cell_row rfl _ _ (w.heap.size + 1 + 1) 24 #[.int .u64 (wd S 0),.int .u64 (wd S 1),.int .u64 (wd S 2),.int .u64 (wd S 3)] (0,0) _ rfl (blk4 (put4 hR fun j => .int .u64 (wd (S) j))) Tryd.underlying24 rfl (by kernel_rfl)) rfl ⟨rfl,zat hbel (by omega) _ _ _ _⟩
theorem fadd_more (b X Y M : Nat) (N : Int) (Q : Nat) (S : Nat) (hX0 : X < top) (hY0 : Y < top) (hM : M < top) (hS : (X + Y) % top = S) (hu : decide (top ≤ X + Y) = false) (hl : ¬ S < M) (D : Nat) (hD : (S + top - M) % top = D) (w : World) (hF : Fb w b M N Q) :
  Calls Tryd.prog 83 #[.pointer (some ⟨b,0,none⟩),.agg #[.int .u64 (wd X 0),.int .u64 (wd X 1),.int .u64 (wd X 2),.int .u64 (wd X 3)],.agg #[.int .u64 (wd Y 0),.int .u64 (wd Y 1),.int .u64 (wd Y 2),.int .u64 (wd Y 3)]] w fun e w' => e = .returned (.agg #[.int .u64 (wd D 0),.int .u64 (wd D 1),.int .u64 (wd D 2),.int .u64 (wd D 3)]) ∧ Below w.heap.size w w':=by
 have hSt : S < top:=by rw [← hS]; exact Nat.mod_lt _ zcp
 have K1:=veil (fun W => kadd X Y S false hS hu hX0 hY0 W)
 clear hS hu hX0 hY0
 obtain ⟨c,hc⟩ : ∃ c,c = cmpN S M:=⟨_,rfl⟩
 have hcn : 0 ≤ c:=by rw [hc,cmp_ge]; exact hl
 have KC:=veil (fun W => kcmp S M c hc.symm hSt hM W)
 have K:=veil (fun W => ksub S M D _ hD rfl hSt hM W)
 clear hc hl hD
 have hX : (((w.alloc (.cells #[.int .u64 (wd X 0),.int .u64 (wd X 1),.int .u64 (wd X 2),.int .u64 (wd X 3)] 24)).alloc (.cells #[.int .u64 (wd Y 0),.int .u64 (wd Y 1),.int .u64 (wd Y 2),.int .u64 (wd Y 3)] 24)).alloc (.cells #[.int .u64 0,.int .u64 0,.int .u64 0,.int .u64 0] 24)).rowIs w.heap.size 24 4 (fun j => .int .u64 (wd X j)):=((zap (n:=4) (by simp) rfl (arr4 fun j => .int .u64 (wd X j))).alloc _).alloc _
 have hY : (((w.alloc (.cells #[.int .u64 (wd X 0),.int .u64 (wd X 1),.int .u64 (wd X 2),.int .u64 (wd X 3)] 24)).alloc (.cells #[.int .u64 (wd Y 0),.int .u64 (wd Y 1),.int .u64 (wd Y 2),.int .u64 (wd Y 3)] 24)).alloc (.cells #[.int .u64 0,.int .u64 0,.int .u64 0,.int .u64 0] 24)).rowIs (w.heap.size + 1) 24 4 (fun j => .int .u64 (wd Y j)):=(zap (n:=4) (by simp) rfl (arr4 fun j => .int .u64 (wd Y j))).alloc _
 have hR : (((w.alloc (.cells #[.int .u64 (wd X 0),.int .u64 (wd X 1),.int .u64 (wd X 2),.int .u64 (wd X 3)] 24)).alloc (.cells #[.int .u64 (wd Y 0),.int .u64 (wd Y 1),.int .u64 (wd Y 2),.int .u64 (wd Y 3)] 24)).alloc (.cells #[.int .u64 0,.int .u64 0,.int .u64 0,.int .u64 0] 24)).rowIs (w.heap.size + 1 + 1) 24 4 (fun _ => .int .u64 0):=zap (n:=4) (by simp) rfl (arr4 fun _ => .int .u64 0)
 have hbel : Below w.heap.size w (((w.alloc (.cells #[.int .u64 (wd X 0),.int .u64 (wd X 1),.int .u64 (wd X 2),.int .u64 (wd X 3)] 24)).alloc (.cells #[.int .u64 (wd Y 0),.int .u64 (wd Y 1),.int .u64 (wd Y 2),.int .u64 (wd Y 3)] 24)).alloc (.cells #[.int .u64 0,.int .u64 0,.int .u64 0,.int .u64 0] 24)):=(((Below.refl _ _).alloc (by simp) _).alloc (by simp) _).alloc (by simp; omega) _
 have hFr : Fb (((w.alloc (.cells #[.int .u64 (wd X 0),.int .u64 (wd X 1),.int .u64 (wd X 2),.int .u64 (wd X 3)] 24)).alloc (.cells #[.int .u64 (wd Y 0),.int .u64 (wd Y 1),.int .u64 (wd Y 2),.int .u64 (wd Y 3)] 24)).alloc (.cells #[.int .u64 0,.int .u64 0,.int .u64 0,.int .u64 0] 24)) b M N Q:=(((hF).alloc _).alloc _).alloc _
 have hbs:=hF.lt
 clear hF
 go_enter Tryd.func83,Tryd.ntmps83
 obtain ⟨a0,a1,a2,a3⟩:=zan hX
 obtain ⟨b0,b1,b2,b3⟩:=zan hY
 go_wp2_with fail
 refine (K1.out _).mono ?_
 rintro e w1 ⟨rfl,hb1⟩
 replace hR:=zak (by exact hR) hb1 (by exact hR.lt)
 replace hFr:=Fb.below (by exact hFr) hb1 (by exact hFr.lt)
 replace hbel:=Below.trans (by first | exact hbel | exact hbel.drew) (hb1.mono (by exact hbel.size))
 clear a0 a1 a2 a3 b0 b1 b2 b3 hX hY hb1
 have hz2:=hR.lt
 have hz3:=hFr.lt
 go_wp2_with fail
 have hT : (w1.alloc (.cells #[.int .u64 (wd S 0),.int .u64 (wd S 1),.int .u64 (wd S 2),.int .u64 (wd S 3)] 24)).rowIs w1.heap.size 24 4 (fun j => .int .u64 (wd S j)):=zap (n:=4) rfl rfl (arr4 fun j => .int .u64 (wd S j))
 replace hR:=hR.alloc (.cells #[.int .u64 (wd S 0),.int .u64 (wd S 1),.int .u64 (wd S 2),.int .u64 (wd S 3)] 24)
 replace hFr:=hFr.alloc (.cells #[.int .u64 (wd S 0),.int .u64 (wd S 1),.int .u64 (wd S 2),.int .u64 (wd S 3)] 24)
 have hg1 : w.heap.size + 1 + 1 < w1.heap.size:=hz2
 have hg2 : b < w1.heap.size:=hz3
 replace hbel:=hbel.alloc (by omega) (.cells #[.int .u64 (wd S 0),.int .u64 (wd S 1),.int .u64 (wd S 2),.int .u64 (wd S 3)] 24)
 generalize w1.heap.size = g at *
 generalize w1.alloc (.cells #[.int .u64 (wd S 0),.int .u64 (wd S 1),.int .u64 (wd S 2),.int .u64 (wd S 3)] 24) = wz at *
 obtain ⟨t0,t1,t2,t3⟩:=zan hT
 obtain ⟨ft0,ft1,ft2,ft3⟩:=zay hT
 obtain ⟨m0,m1,m2,m3⟩:=hFr.mod
 have z1:=hT.lt
 have z2:=hR.lt
 have z3:=hFr.lt
 go_region_with (go_at_call 47; refine (KC.out _).mono ?_; rintro e wm ⟨rfl,hbm⟩; replace hT:=zak (by exact hT) hbm (by exact hT.lt); replace hR:=zak (by exact hR) hbm (by exact hR.lt); replace hFr:=Fb.below (by exact hFr) hbm (by exact hFr.lt); replace hbel:=Below.trans (by first | exact hbel | exact hbel.drew) (hbm.mono (by exact hbel.size)))
 all_goals
  clear t0 t1 t2 t3 ft0 ft1 ft2 ft3 m0 m1 m2 m3
  clear z1 z2 z3 hbm
  obtain ⟨t0,t1,t2,t3⟩:=zan hT
  obtain ⟨ft0,ft1,ft2,ft3⟩:=zay hT
  obtain ⟨m0,m1,m2,m3⟩:=hFr.mod
  have z1:=hT.lt
  have z2:=hR.lt
  have z3:=hFr.lt
  go_wp2_with fail
  go_region_with (go_at_call 62; refine (K.out _).mono ?_; rintro e wq ⟨rfl,hbq⟩; replace hT:=zak (by exact hT) hbq (by exact hT.lt); replace hR:=zak (by exact hR) hbq (by exact hR.lt); replace hFr:=Fb.below (by exact hFr) hbq (by exact hFr.lt); replace hbel:=Below.trans (by first | exact hbel | exact hbel.drew) (hbq.mono (by exact hbel.size)); obtain ⟨q0,q1,q2,q3⟩:=zan hT; obtain ⟨fq0,fq1,fq2,fq3⟩:=zay hT)
  all_goals
   clear t0 t1 t2 t3 ft0 ft1 ft2 ft3 m0 m1 m2 m3 q0 q1 q2 q3 fq0 fq1 fq2 fq3 hbq z1 z2 z3
   replace hR:=zbc hR (b':=g) (by omega) (.int .u64 (wd D 0)) (.int .u64 (wd D 1)) (.int .u64 (wd D 2)) (.int .u64 (wd D 3))
   replace hFr : Fb _ b M N Q:=zbc hFr (b':=g) (by omega) (.int .u64 (wd D 0)) (.int .u64 (wd D 1)) (.int .u64 (wd D 2)) (.int .u64 (wd D 3))
   replace hT:=put4 hT (fun j => .int .u64 (wd (D) j))
   replace hbel:=zat (b:=g) hbel (by omega) (.int .u64 (wd D 0)) (.int .u64 (wd D 1)) (.int .u64 (wd D 2)) (.int .u64 (wd D 3))
   generalize ((((wq.setCell ⟨g,0,none⟩ (.int .u64 (wd D 0))).setCell ⟨g,1,none⟩ (.int .u64 (wd D 1))).setCell ⟨g,2,none⟩ (.int .u64 (wd D 2))).setCell ⟨g,3,none⟩ (.int .u64 (wd D 3))) = wp at *
   clear hFr
   obtain ⟨t0,t1,t2,t3⟩:=zan hT
   obtain ⟨f0,f1,f2,f3⟩:=zay hR
   obtain ⟨d0,d1,d2,d3⟩:=zan hR
   go_wp2
   refine bodyPost_ret (results_cell_row rfl _ _ (w.heap.size + 1 + 1) 24 #[.int .u64 (wd D 0),.int .u64 (wd D 1),.int .u64 (wd D 2),.int .u64 (wd D 3)] (0,0) _ rfl (blk4 (put4 hR fun j => .int .u64 (wd (D) j))) Tryd.underlying24 rfl (by kernel_rfl)) rfl ⟨rfl,zat hbel (by omega) _ _ _ _⟩
theorem fadd_calls (b X Y M : Nat) (N : Int) (Q Z : Nat) (hX : X < M) (hY : Y < M) (hM : M < top) (hZ : (X + Y) % M = Z) (w : World) (hF : Fb w b M N Q) :
  Calls Tryd.prog 83 #[.pointer (some ⟨b,0,none⟩),.agg #[.int .u64 (wd X 0),.int .u64 (wd X 1),.int .u64 (wd X 2),.int .u64 (wd X 3)],.agg #[.int .u64 (wd Y 0),.int .u64 (wd Y 1),.int .u64 (wd Y 2),.int .u64 (wd Y 3)]] w fun e w' => e = .returned (.agg #[.int .u64 (wd Z 0),.int .u64 (wd Z 1),.int .u64 (wd Z 2),.int .u64 (wd Z 3)]) ∧ Below w.heap.size w w':=by
 have e:=fsum_num hX hY (by omega)
 rw [hZ] at e
 by_cases h : top ≤ X + Y
 ·
  rw [if_pos (Or.inl h)] at e
  exact fadd_over b X Y M N Q _ (by omega) (by omega) hM rfl (by simpa using h) Z e.symm w hF
 ·
  by_cases h2 : (X + Y) % top < M
  ·
   rw [if_neg (by rintro (a | a) <;> contradiction)] at e
   rw [e]
   exact fadd_less b X Y M N Q _ (by omega) (by omega) hM rfl (by simpa using h) h2 w hF
  ·
   rw [if_pos (Or.inr h2)] at e
   exact fadd_more b X Y M N Q _ (by omega) (by omega) hM rfl (by simpa using h) h2 Z e.symm w hF
end Go.Proofs.YtmfjigcdhijkjaaDoor
