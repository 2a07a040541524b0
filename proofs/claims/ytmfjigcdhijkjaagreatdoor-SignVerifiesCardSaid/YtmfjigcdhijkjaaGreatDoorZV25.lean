/-
  Of FHalf.
-/
import Derived.Deep.CutRange
import Derived.Test.YtmfjigcdhijkjaaGreatDoorZV9
import Derived.Test.YtmfjigcdhijkjaaGreatDoorZV19
import Derived.Test.YtmfjigcdhijkjaaGreatDoorZV15
set_option maxRecDepth 1000000
set_option maxHeartbeats 20000000
namespace Go.Proofs.YtmfjigcdhijkjaaGreatDoor
open Go.RowKit
open Go.Act renaming put → aP
open List renaming setIfInBounds_toArray → lA, set_cons_zero → lZ, set_cons_succ → lS
theorem kadd_one (X Z : Nat) (u : Bool) (h : (X + 1) % top = Z) (h2 : decide (top ≤ X + 1) = u) (hX : X < top) (w : World) :
  Calls Tryz.prog 109 #[.agg #[.int .u64 (wd X 0),.int .u64 (wd X 1),.int .u64 (wd X 2),.int .u64 (wd X 3)],.agg #[.int .u64 1,.int .u64 0,.int .u64 0,.int .u64 0]] w fun e w' => e = .returned (.tuple #[.agg #[.int .u64 (wd Z 0),.int .u64 (wd Z 1),.int .u64 (wd Z 2),.int .u64 (wd Z 3)],.bool u]) ∧ Below w.heap.size w w':=by
 have h:=kadd X 1 Z u h h2 hX (by decide) w
 have o0 : wd 1 0 = 1:=by decide
 have o1 : wd 1 1 = 0:=by decide
 have o2 : wd 1 2 = 0:=by decide
 have o3 : wd 1 3 = 0:=by decide
 rw [o0,o1,o2,o3] at h
 exact h
theorem bit_par (X : Nat) : bit X 0 = decide (X % 2 = 1):=by
 unfold bit; rw [Nat.pow_zero,Nat.div_one]
 cases h : decide (X % 2 = 1) <;> simp_all
theorem fhalf_even (b X M : Nat) (N : Int) (Q Z : Nat) (hX : X < M) (hM : M < top) (hodd : M % 2 = 1) (hp : X % 2 = 0) (hZ : X / 2 = Z) (w : World) (hF : Fb w b M N Q) :
  Calls Tryz.prog 76 #[.pointer (some ⟨b,0,none⟩),.agg #[.int .u64 (wd X 0),.int .u64 (wd X 1),.int .u64 (wd X 2),.int .u64 (wd X 3)]] w fun e w' => e = .returned (.agg #[.int .u64 (wd Z 0),.int .u64 (wd Z 1),.int .u64 (wd Z 2),.int .u64 (wd Z 3)]) ∧ Below w.heap.size w w':=by
 obtain ⟨H,hH⟩ : ∃ H,H = X / 2:=⟨_,rfl⟩
 rw [← hH] at hZ
 subst hZ
 have K1:=veil (fun W => khalf X H hH.symm (by omega) W)
 have K2:=veil (fun W => kbit0 X false (by rw [bit_par,hp]; rfl) W)
 clear hX hM hodd hp hH
 have hA : ((w.alloc (.cells #[.int .u64 (wd X 0),.int .u64 (wd X 1),.int .u64 (wd X 2),.int .u64 (wd X 3)] 24)).alloc (.cells #[.int .u64 0,.int .u64 0,.int .u64 0,.int .u64 0] 24)).rowIs w.heap.size 24 4 (fun j => .int .u64 (wd X j)):=(zai (n:=4) (by simp) rfl (arr4 fun j => .int .u64 (wd X j))).alloc _
 have hR : ((w.alloc (.cells #[.int .u64 (wd X 0),.int .u64 (wd X 1),.int .u64 (wd X 2),.int .u64 (wd X 3)] 24)).alloc (.cells #[.int .u64 0,.int .u64 0,.int .u64 0,.int .u64 0] 24)).rowIs (w.heap.size + 1) 24 4 (fun _ => .int .u64 0):=zai (n:=4) (by simp) rfl (arr4 fun _ => .int .u64 0)
 have hbel : Below w.heap.size w ((w.alloc (.cells #[.int .u64 (wd X 0),.int .u64 (wd X 1),.int .u64 (wd X 2),.int .u64 (wd X 3)] 24)).alloc (.cells #[.int .u64 0,.int .u64 0,.int .u64 0,.int .u64 0] 24)):=((Below.refl _ _).alloc (by simp) _).alloc (by simp) _
 have hFr : Fb ((w.alloc (.cells #[.int .u64 (wd X 0),.int .u64 (wd X 1),.int .u64 (wd X 2),.int .u64 (wd X 3)] 24)).alloc (.cells #[.int .u64 0,.int .u64 0,.int .u64 0,.int .u64 0] 24)) b M N Q:=((hF).alloc _).alloc _
 have hbs:=hF.lt
 clear hF
 go_enter Tryz.func76,Tryz.ntmps76
 obtain ⟨a0,a1,a2,a3⟩:=zag hA
 go_wp2_with fail
 refine (K1.out _).mono ?_
 rintro e w1 ⟨rfl,hb1⟩
 replace hA:=zad (by exact hA) hb1 (by exact hA.lt)
 replace hR:=zad (by exact hR) hb1 (by exact hR.lt)
 replace hFr:=Fb.below (by exact hFr) hb1 (by exact hFr.lt)
 replace hbel:=Below.trans (by first | exact hbel | exact hbel.drew) (hb1.mono (by exact hbel.size))
 clear a0 a1 a2 a3 hb1
 have hg1:=hR.lt
 have hg2:=hFr.lt
 obtain ⟨a0,a1,a2,a3⟩:=zag hA
 go_upto_region 2 with (fail)
 clear a0 a1 a2 a3
 have hT : (w1.alloc (.cells #[.int .u64 (wd H 0),.int .u64 (wd H 1),.int .u64 (wd H 2),.int .u64 (wd H 3)] 24)).rowIs w1.heap.size 24 4 (fun j => .int .u64 (wd H j)):=zai (n:=4) rfl rfl (arr4 fun j => .int .u64 (wd H j))
 replace hA:=hA.alloc (.cells #[.int .u64 (wd H 0),.int .u64 (wd H 1),.int .u64 (wd H 2),.int .u64 (wd H 3)] 24)
 replace hR:=hR.alloc (.cells #[.int .u64 (wd H 0),.int .u64 (wd H 1),.int .u64 (wd H 2),.int .u64 (wd H 3)] 24)
 replace hFr:=hFr.alloc (.cells #[.int .u64 (wd H 0),.int .u64 (wd H 1),.int .u64 (wd H 2),.int .u64 (wd H 3)] 24)
 replace hbel:=hbel.alloc (by omega) (.cells #[.int .u64 (wd H 0),.int .u64 (wd H 1),.int .u64 (wd H 2),.int .u64 (wd H 3)] 24)
 generalize w1.heap.size = g at *
 generalize w1.alloc (.cells #[.int .u64 (wd H 0),.int .u64 (wd H 1),.int .u64 (wd H 2),.int .u64 (wd H 3)] 24) = wz at *
 obtain ⟨a0,a1,a2,a3⟩:=zag hA
 go_wp2_with fail
 refine (K2.out _).mono ?_
 rintro e w2 ⟨rfl,hb2⟩
 replace hT:=zad (by exact hT) hb2 (by exact hT.lt)
 replace hR:=zad (by exact hR) hb2 (by exact hR.lt)
 replace hFr:=Fb.below (by exact hFr) hb2 (by exact hFr.lt)
 replace hbel:=Below.trans (by first | exact hbel | exact hbel.drew) (hb2.mono (by exact hbel.size))
 clear a0 a1 a2 a3 hb2 hA
 clear hFr
 obtain ⟨t0,t1,t2,t3⟩:=zag hT
 obtain ⟨f0,f1,f2,f3⟩:=zaq hR
 obtain ⟨d0,d1,d2,d3⟩:=zag hR
 go_wp2
 refine bodyPost_ret (results_cell_row rfl _ _ (w.heap.size + 1) 24 #[.int .u64 (wd H 0),.int .u64 (wd H 1),.int .u64 (wd H 2),.int .u64 (wd H 3)] (0,0) _ rfl (blk4 (put4 hR fun j => .int .u64 (wd (H) j))) Tryz.underlying24 rfl (by kernel_rfl)) rfl ⟨rfl,zas hbel (by omega) _ _ _ _⟩
theorem fhalf_odd (b X M : Nat) (N : Int) (Q Z : Nat) (hX : X < M) (hM : M < top) (hodd : M % 2 = 1) (hp : X % 2 = 1) (hZ : (X + M) / 2 = Z) (w : World) (hF : Fb w b M N Q) :
  Calls Tryz.prog 76 #[.pointer (some ⟨b,0,none⟩),.agg #[.int .u64 (wd X 0),.int .u64 (wd X 1),.int .u64 (wd X 2),.int .u64 (wd X 3)]] w fun e w' => e = .returned (.agg #[.int .u64 (wd Z 0),.int .u64 (wd Z 1),.int .u64 (wd Z 2),.int .u64 (wd Z 3)]) ∧ Below w.heap.size w w':=by
 obtain ⟨H,hH⟩ : ∃ H,H = X / 2:=⟨_,rfl⟩
 obtain ⟨J,hJ⟩ : ∃ J,J = M / 2:=⟨_,rfl⟩
 obtain ⟨S,hS⟩ : ∃ S,S = H + J:=⟨_,rfl⟩
 have hH2 : H ≤ X:=by omega
 have hJ2 : J ≤ M:=by omega
 have hS2 : S < M:=by omega
 have hZ2 : Z = S + 1:=by omega
 have hZ3 : Z ≤ M:=by omega
 have K1:=veil (fun W => khalf X H hH.symm (by omega) W)
 have K2:=veil (fun W => kbit0 X true (by rw [bit_par,hp]; rfl) W)
 have K3:=veil (fun W => khalf M J hJ.symm hM W)
 have K4:=veil (fun W => kadd H J S false (by rw [← hS]; exact Nat.mod_eq_of_lt (by omega)) (by rw [← hS]; simp; omega) (by omega) (by omega) W)
 have K5:=veil (fun W => kadd_one S Z false (by rw [← hZ2]; exact Nat.mod_eq_of_lt (by omega)) (by rw [← hZ2]; simp; omega) (by omega) W)
 clear hX hM hodd hp hH hJ hS hH2 hJ2 hS2 hZ2 hZ3 hZ
 have hA : ((w.alloc (.cells #[.int .u64 (wd X 0),.int .u64 (wd X 1),.int .u64 (wd X 2),.int .u64 (wd X 3)] 24)).alloc (.cells #[.int .u64 0,.int .u64 0,.int .u64 0,.int .u64 0] 24)).rowIs w.heap.size 24 4 (fun j => .int .u64 (wd X j)):=(zai (n:=4) (by simp) rfl (arr4 fun j => .int .u64 (wd X j))).alloc _
 have hR : ((w.alloc (.cells #[.int .u64 (wd X 0),.int .u64 (wd X 1),.int .u64 (wd X 2),.int .u64 (wd X 3)] 24)).alloc (.cells #[.int .u64 0,.int .u64 0,.int .u64 0,.int .u64 0] 24)).rowIs (w.heap.size + 1) 24 4 (fun _ => .int .u64 0):=zai (n:=4) (by simp) rfl (arr4 fun _ => .int .u64 0)
 have hbel : Below w.heap.size w ((w.alloc (.cells #[.int .u64 (wd X 0),.int .u64 (wd X 1),.int .u64 (wd X 2),.int .u64 (wd X 3)] 24)).alloc (.cells #[.int .u64 0,.int .u64 0,.int .u64 0,.int .u64 0] 24)):=((Below.refl _ _).alloc (by simp) _).alloc (by simp) _
 have hFr : Fb ((w.alloc (.cells #[.int .u64 (wd X 0),.int .u64 (wd X 1),.int .u64 (wd X 2),.int .u64 (wd X 3)] 24)).alloc (.cells #[.int .u64 0,.int .u64 0,.int .u64 0,.int .u64 0] 24)) b M N Q:=((hF).alloc _).alloc _
 have hbs:=hF.lt
 clear hF
 go_enter Tryz.func76,Tryz.ntmps76
 obtain ⟨a0,a1,a2,a3⟩:=zag hA
 go_wp2_with fail
 refine (K1.out _).mono ?_
 rintro e w1 ⟨rfl,hb1⟩
 replace hA:=zad (by exact hA) hb1 (by exact hA.lt)
 replace hR:=zad (by exact hR) hb1 (by exact hR.lt)
 replace hFr:=Fb.below (by exact hFr) hb1 (by exact hFr.lt)
 replace hbel:=Below.trans (by first | exact hbel | exact hbel.drew) (hb1.mono (by exact hbel.size))
 clear a0 a1 a2 a3 hb1
 have hg1:=hR.lt
 have hg2:=hFr.lt
 obtain ⟨a0,a1,a2,a3⟩:=zag hA
 go_upto_region 2 with (fail)
 clear a0 a1 a2 a3
 have hT : (w1.alloc (.cells #[.int .u64 (wd H 0),.int .u64 (wd H 1),.int .u64 (wd H 2),.int .u64 (wd H 3)] 24)).rowIs w1.heap.size 24 4 (fun j => .int .u64 (wd H j)):=zai (n:=4) rfl rfl (arr4 fun j => .int .u64 (wd H j))
 replace hA:=hA.alloc (.cells #[.int .u64 (wd H 0),.int .u64 (wd H 1),.int .u64 (wd H 2),.int .u64 (wd H 3)] 24)
 replace hR:=hR.alloc (.cells #[.int .u64 (wd H 0),.int .u64 (wd H 1),.int .u64 (wd H 2),.int .u64 (wd H 3)] 24)
 replace hFr:=hFr.alloc (.cells #[.int .u64 (wd H 0),.int .u64 (wd H 1),.int .u64 (wd H 2),.int .u64 (wd H 3)] 24)
 replace hbel:=hbel.alloc (by omega) (.cells #[.int .u64 (wd H 0),.int .u64 (wd H 1),.int .u64 (wd H 2),.int .u64 (wd H 3)] 24)
 generalize w1.heap.size = g at *
 generalize w1.alloc (.cells #[.int .u64 (wd H 0),.int .u64 (wd H 1),.int .u64 (wd H 2),.int .u64 (wd H 3)] 24) = wz at *
 obtain ⟨a0,a1,a2,a3⟩:=zag hA
 go_wp2_with fail
 refine (K2.out _).mono ?_
 rintro e w2 ⟨rfl,hb2⟩
 replace hT:=zad (by exact hT) hb2 (by exact hT.lt)
 replace hR:=zad (by exact hR) hb2 (by exact hR.lt)
 replace hFr:=Fb.below (by exact hFr) hb2 (by exact hFr.lt)
 replace hbel:=Below.trans (by first | exact hbel | exact hbel.drew) (hb2.mono (by exact hbel.size))
 clear a0 a1 a2 a3 hb2 hA
 obtain ⟨t0,t1,t2,t3⟩:=zag hT
 obtain ⟨ft0,ft1,ft2,ft3⟩:=zaq hT
 obtain ⟨m0,m1,m2,m3⟩:=hFr.mod
 go_wp2_with fail
 go_region_with (first
  | (go_at_call 75; refine (K3.out _).mono ?_; rintro e w3 ⟨rfl,hb3⟩; replace hT:=zad (by exact hT) hb3 (by exact hT.lt); replace hR:=zad (by exact hR) hb3 (by exact hR.lt); replace hFr:=Fb.below (by exact hFr) hb3 (by exact hFr.lt); replace hbel:=Below.trans (by first | exact hbel | exact hbel.drew) (hb3.mono (by exact hbel.size)); obtain ⟨t0,t1,t2,t3⟩:=zag hT; obtain ⟨ft0,ft1,ft2,ft3⟩:=zaq hT)
  | (go_at_call 109; refine (K4.out _).mono ?_; rintro e w4 ⟨rfl,hb4⟩; replace hT:=zad (by exact hT) hb4 (by exact hT.lt); replace hR:=zad (by exact hR) hb4 (by exact hR.lt); replace hFr:=Fb.below (by exact hFr) hb4 (by exact hFr.lt); replace hbel:=Below.trans (by first | exact hbel | exact hbel.drew) (hb4.mono (by exact hbel.size)); obtain ⟨t0,t1,t2,t3⟩:=zag hT; obtain ⟨ft0,ft1,ft2,ft3⟩:=zaq hT))
 all_goals
  clear t0 t1 t2 t3 ft0 ft1 ft2 ft3 m0 m1 m2 m3
  replace hR:=zar hR (b':=g) (by omega) (.int .u64 (wd S 0)) (.int .u64 (wd S 1)) (.int .u64 (wd S 2)) (.int .u64 (wd S 3))
  replace hFr : Fb _ b M N Q:=zar hFr (b':=g) (by omega) (.int .u64 (wd S 0)) (.int .u64 (wd S 1)) (.int .u64 (wd S 2)) (.int .u64 (wd S 3))
  replace hT:=put4 hT (fun j => .int .u64 (wd (S) j))
  replace hbel:=zas (b:=g) hbel (by omega) (.int .u64 (wd S 0)) (.int .u64 (wd S 1)) (.int .u64 (wd S 2)) (.int .u64 (wd S 3))
  generalize ((((w4.setCell ⟨g,0,none⟩ (.int .u64 (wd S 0))).setCell ⟨g,1,none⟩ (.int .u64 (wd S 1))).setCell ⟨g,2,none⟩ (.int .u64 (wd S 2))).setCell ⟨g,3,none⟩ (.int .u64 (wd S 3))) = w5 at *
  obtain ⟨t0,t1,t2,t3⟩:=zag hT
  obtain ⟨ft0,ft1,ft2,ft3⟩:=zaq hT
  go_wp2_with fail
  refine (K5.out _).mono ?_
  rintro e w6 ⟨rfl,hb6⟩
  replace hT:=zad (by exact hT) hb6 (by exact hT.lt)
  replace hR:=zad (by exact hR) hb6 (by exact hR.lt)
  replace hFr:=Fb.below (by exact hFr) hb6 (by exact hFr.lt)
  replace hbel:=Below.trans (by first | exact hbel | exact hbel.drew) (hb6.mono (by exact hbel.size))
  clear t0 t1 t2 t3 ft0 ft1 ft2 ft3
  obtain ⟨t0,t1,t2,t3⟩:=zag hT
  obtain ⟨ft0,ft1,ft2,ft3⟩:=zaq hT
  go_upto_region 6 with (fail)
  clear t0 t1 t2 t3 ft0 ft1 ft2 ft3
  replace hR:=zar hR (b':=g) (by omega) (.int .u64 (wd Z 0)) (.int .u64 (wd Z 1)) (.int .u64 (wd Z 2)) (.int .u64 (wd Z 3))
  replace hFr : Fb _ b M N Q:=zar hFr (b':=g) (by omega) (.int .u64 (wd Z 0)) (.int .u64 (wd Z 1)) (.int .u64 (wd Z 2)) (.int .u64 (wd Z 3))
  replace hT:=put4 hT (fun j => .int .u64 (wd (Z) j))
  replace hbel:=zas (b:=g) hbel (by omega) (.int .u64 (wd Z 0)) (.int .u64 (wd Z 1)) (.int .u64 (wd Z 2)) (.int .u64 (wd Z 3))
  generalize ((((w6.setCell ⟨g,0,none⟩ (.int .u64 (wd Z 0))).setCell ⟨g,1,none⟩ (.int .u64 (wd Z 1))).setCell ⟨g,2,none⟩ (.int .u64 (wd Z 2))).setCell ⟨g,3,none⟩ (.int .u64 (wd Z 3))) = w7 at *
  clear hFr
  obtain ⟨t0,t1,t2,t3⟩:=zag hT
  obtain ⟨f0,f1,f2,f3⟩:=zaq hR
  obtain ⟨d0,d1,d2,d3⟩:=zag hR
  go_wp2
  refine bodyPost_ret (results_cell_row rfl _ _ (w.heap.size + 1) 24 #[.int .u64 (wd Z 0),.int .u64 (wd Z 1),.int .u64 (wd Z 2),.int .u64 (wd Z 3)] (0,0) _ rfl (blk4 (put4 hR fun j => .int .u64 (wd (Z) j))) Tryz.underlying24 rfl (by kernel_rfl)) rfl ⟨rfl,zas hbel (by omega) _ _ _ _⟩
theorem fhalf_calls (b X M : Nat) (N : Int) (Q Z : Nat) (hX : X < M) (hM : M < top) (hodd : M % 2 = 1) (hZ : hf X M = Z) (w : World) (hF : Fb w b M N Q) :
  Calls Tryz.prog 76 #[.pointer (some ⟨b,0,none⟩),.agg #[.int .u64 (wd X 0),.int .u64 (wd X 1),.int .u64 (wd X 2),.int .u64 (wd X 3)]] w fun e w' => e = .returned (.agg #[.int .u64 (wd Z 0),.int .u64 (wd Z 1),.int .u64 (wd Z 2),.int .u64 (wd Z 3)]) ∧ Below w.heap.size w w':=by
 unfold hf at hZ
 by_cases h : X % 2 = 0
 ·
  rw [if_pos h] at hZ; exact fhalf_even b X M N Q Z hX hM hodd h hZ w hF
 ·
  rw [if_neg h] at hZ; exact fhalf_odd b X M N Q Z hX hM hodd (by omega) hZ w hF
end Go.Proofs.YtmfjigcdhijkjaaGreatDoor
