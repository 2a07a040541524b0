/-
  Of G2 G3 G4a G4 G5a G5 Eql.
-/
import Derived.Deep.CutRange
import Derived.Deep.RegionHeld3
import Derived.Test.YthlbemnbmbmjhaaGreatDoorRows
import Derived.WalkKit
import Derived.ChangeKeysEq
import Derived.Test.YthlbemnbmbmjhaaGreatDoorZB3
import Derived.Test.YthlbemnbmbmjhaaGreatDoorZB1
set_option maxRecDepth 1000000
set_option maxHeartbeats 20000000
namespace Go.Proofs.YthlbemnbmbmjhaaGreatDoor
open Go.RowKit
open Go.Value renaming int → vI
open Go.IntKind renaming u64 → vU
open Go.Act renaming put → aP
open List renaming setIfInBounds_toArray → lA, set_cons_zero → lZ, set_cons_succ → lS
theorem dg_ones {B : Nat} (hB : 0 < B) (n i : Nat) (hi : i < n) : dg B (B ^ n - 1) i = B - 1:=by
 obtain ⟨d,rfl⟩ : ∃ d,n = i + (d + 1):=⟨n - i - 1,by omega⟩
 have hp : 0 < B ^ i:=Nat.pow_pos hB
 have hd : 0 < B ^ d:=Nat.pow_pos hB
 have e : B ^ (i + (d + 1)) - 1 = (B ^ i - 1) + B ^ i * (B ^ (d + 1) - 1):=by
  rw [Nat.pow_add,Nat.mul_sub,Nat.mul_one]
  have : B ^ i ≤ B ^ i * B ^ (d + 1):=Nat.le_mul_of_pos_right _ (Nat.pow_pos hB)
  omega
 have e2 : B ^ (d + 1) - 1 = (B - 1) + B * (B ^ d - 1):=by
  rw [Nat.pow_succ,Nat.mul_comm,Nat.mul_sub,Nat.mul_one]
  have : B ≤ B * B ^ d:=Nat.le_mul_of_pos_right _ hd
  omega
 unfold dg
 rw [e,Nat.add_mul_div_left _ _ hp,Nat.div_eq_of_lt (by omega),Nat.zero_add,e2,Nat.add_mul_mod_self_left,Nat.mod_eq_of_lt (by omega)]
theorem dg_comp {B : Nat} (hB : 0 < B) (Y n i : Nat) (hi : i < n) (hY : Y < B ^ n) : dg B (B ^ n - 1 - Y) i = B - 1 - dg B Y i:=by
 have h:=dg_sub hB (B ^ n - 1) Y n i hi (Nat.le_of_lt hY)
 have e : dg B (B ^ n - 1 + B ^ n - Y) i = dg B (B ^ n - 1 - Y) i:=by
  rw [show B ^ n - 1 + B ^ n - Y = (B ^ n - 1 - Y) + B ^ n by omega,← zcg _ n i hi,Nat.add_mod_right,zcg _ n i hi]
 have hb : bw B (B ^ n - 1) Y i = 0:=by
  have hp : 0 < B ^ i:=Nat.pow_pos hB
  unfold bw
  have e2 : (B ^ n - 1) % B ^ i = B ^ i - 1:=by
   obtain ⟨d,rfl⟩ : ∃ d,n = i + d:=⟨n - i,by omega⟩
   have : B ^ i ≤ B ^ i * B ^ d:=Nat.le_mul_of_pos_right _ (Nat.pow_pos hB)
   rw [Nat.pow_add,show B ^ i * B ^ d - 1 = (B ^ i - 1) + B ^ i * (B ^ d - 1) by rw [Nat.mul_sub,Nat.mul_one]; omega,Nat.add_mul_mod_self_left,Nat.mod_eq_of_lt (by omega)]
  have h1:=Nat.mod_lt Y hp
  rw [e2,if_neg (by omega)]
 have hl:=dg_lt hB Y i
 rw [e,hb,dg_ones hB n i hi] at h
 rw [h,Nat.mod_eq_sub_mod (by omega),Nat.mod_eq_of_lt (by omega)]
 omega
theorem wd_comp {Y i : Nat} (hY : Y < top) (hi : i < 4) : 18446744073709551615 - wd Y i = wd (top - 1 - Y) i:=by
 have h:=dg_comp zaq Y 4 i hi hY
 have hl:=dg_lt zaq Y i
 unfold wd top
 rw [h]
 unfold w64 at *
 omega
theorem minus_num {X Y : Nat} (hY : Y < top) : ((X + (top - 1 - Y)) % top + 1) % top = (X + top - Y) % top:=by
 rw [Nat.mod_add_mod,show X + (top - 1 - Y) + 1 = X + top - Y by omega]
theorem minus_calls (X Y : Nat) (hX : X < top) (hY : Y < top) (w : World) :
  Calls Tryz.prog 75 #[.agg #[vI vU (wd X 0),vI vU (wd X 1),vI vU (wd X 2),vI vU (wd X 3)],.agg #[vI vU (wd Y 0),vI vU (wd Y 1),vI vU (wd Y 2),vI vU (wd Y 3)]] w fun e w' => e = .returned (.agg #[vI vU (wd ((X + top - Y) % top) 0),vI vU (wd ((X + top - Y) % top) 1),vI vU (wd ((X + top - Y) % top) 2),vI vU (wd ((X + top - Y) % top) 3)]) ∧ Below w.heap.size w w':=by
 obtain ⟨D,hD⟩ : ∃ D,D = (X + top - Y) % top:=⟨_,rfl⟩
 rw [← hD]
 have HD:=veil hD
 clear hD
 go_enter Tryz.func75,Tryz.ntmps75
 go_wp2
 go_loopw [5] (fun i wr => ∃ k : Nat,k ≤ 4 ∧ i = .int .i64 k ∧ wr.rowIs w.heap.size 27 4 (fun j => .int .u64 (wd X j))
   ∧ wr.rowIs (w.heap.size + 1) 27 4 (fun j => .int .u64 (if j < k then wd (top - 1 - Y) j else wd Y j)) ∧ wr.rowIs (w.heap.size + 1 + 1) 27 4 (fun _ => .int .u64 0) ∧ Below w.heap.size w wr)
  (fun i _ => 4 - (intOf i).toNat)
 case atStart => exact ⟨0,by omega,rfl,((zac (n:=4) (by simp) rfl (arr4 fun j => .int .u64 (wd X j))).alloc _).alloc _,((zac (n:=4) (by simp) rfl (arr4 fun j => .int .u64 (wd Y j))).alloc _).congr (fun j _ => by simp),zac (n:=4) (by simp) rfl (arr4 fun _ => .int .u64 0),(((Below.refl _ _).alloc (by simp) _).alloc (by simp) _).alloc (by simp; omega) _⟩
 case round =>
  obtain ⟨k,hk,rfl,hRX,hRY,hRZ,hbel⟩:=hrel
  by_cases hlt : k < 4
  ·
   have c2:=hRY.cell hlt
   have f2:=hRY.frozen k
   rw [if_neg (by omega)] at c2
   have l1:=wd_lo Y k
   have u1:=wd_le Y k
   have HC:=veil (wd_comp hY hlt)
   go_wp2
   go_roundw
   case rel =>
    rw [HC.out]
    exact ⟨k + 1,by omega,by go_num,zar hRX (by omega) _,(hRY.set k _).congr (row_mix hlt),zar hRZ (by omega) _,zai hbel (by omega) _⟩
   case measure => simp [intOf]; omega
  ·
   obtain rfl : k = 4:=by omega
   have hRY:=hRY.congr (g:=fun j => .int .u64 (wd (top - 1 - Y) j)) (fun j hj => by rw [if_pos hj])
   obtain ⟨c0,c1,c2,c3⟩:=zad hRX
   obtain ⟨b0,b1,b2,b3⟩:=zad hRY
   obtain ⟨S,hS⟩ : ∃ S,S = (X + (top - 1 - Y)) % top:=⟨_,rfl⟩
   have hSt : S < top:=by rw [hS]; exact Nat.mod_lt _ zbz
   have h1:=fun W => zgn X (top - 1 - Y) hX (by omega) W
   have h2:=fun W => zgn S 1 hSt (by decide) W
   rw [← hS] at h1
   rw [hS,minus_num hY,← hS,← HD.out] at h2
   have H1:=veil h1
   have o0 : wd 1 0 = 1:=by decide
   have o1 : wd 1 1 = 0:=by decide
   have o2 : wd 1 2 = 0:=by decide
   have o3 : wd 1 3 = 0:=by decide
   rw [o0,o1,o2,o3] at h2
   have H2:=veil h2
   clear h1 h2 hS o0 o1 o2 o3
   go_wp2_with fail
   refine (H1.out _).mono ?_
   rintro e w3 ⟨rfl,hb3⟩
   clear c0 c1 c2 c3 b0 b1 b2 b3
   have hRZ3:=zaa hRZ hb3 hRZ.lt
   have hB3:=hbel.trans (hb3.mono hbel.size)
   have hS4 : (w3.alloc (.cells #[vI vU (wd S 0),vI vU (wd S 1),vI vU (wd S 2),vI vU (wd S 3)] 27)).rowIs w3.heap.size 27 4 (fun j => .int .u64 (wd S j)):=zac (n:=4) rfl rfl (arr4 fun j => .int .u64 (wd S j))
   have hRZ4:=hRZ3.alloc (.cells #[vI vU (wd S 0),vI vU (wd S 1),vI vU (wd S 2),vI vU (wd S 3)] 27)
   have hB4:=hB3.alloc hB3.size (.cells #[vI vU (wd S 0),vI vU (wd S 1),vI vU (wd S 2),vI vU (wd S 3)] 27)
   have nz:=hRZ3.lt
   clear hRX hRY hRZ hbel hb3 hRZ3 hB3
   go_wp2_with fail
   refine (H2.out _).mono ?_
   rintro e w5 ⟨rfl,hb5⟩
   have hS5:=zaa hS4 hb5 hS4.lt
   have hRZ5:=zaa hRZ4 hb5 hRZ4.lt
   have hB5:=hB4.trans (hb5.mono hB4.size)
   clear hS4 hRZ4 hB4 hb5
   obtain ⟨t0,t1,t2,t3⟩:=zaj hS5
   obtain ⟨v0,v1,v2,v3⟩:=zad hS5
   go_upto_region 7 with (fail)
   have hTz:=put4 hS5 (fun j => .int .u64 (wd D j))
   have hZz:=zas hRZ5 (Nat.ne_of_lt nz) (.int .u64 (wd D 0)) (.int .u64 (wd D 1)) (.int .u64 (wd D 2)) (.int .u64 (wd D 3))
   have hBz:=zae (b:=w3.heap.size) hB5 (by omega) (.int .u64 (wd D 0)) (.int .u64 (wd D 1)) (.int .u64 (wd D 2)) (.int .u64 (wd D 3))
   clear v0 v1 v2 v3 t0 t1 t2 t3 hS5 hRZ5 hB5
   generalize ((((w5.setCell ⟨w3.heap.size,0,none⟩ (.int .u64 (wd D 0))).setCell ⟨w3.heap.size,1,none⟩ (.int .u64 (wd D 1))).setCell ⟨w3.heap.size,2,none⟩ (.int .u64 (wd D 2))).setCell ⟨w3.heap.size,3,none⟩ (.int .u64 (wd D 3))) = wz at *
   obtain ⟨p0,p1,p2,p3⟩:=zad hTz
   obtain ⟨d0,d1,d2,d3⟩:=zad hZz
   obtain ⟨f0,f1,f2,f3⟩:=zaj hZz
   go_wp2
   refine bodyPost_ret (results_cell_row rfl _ _ (w.heap.size + 1 + 1) 27 #[vI vU (wd D 0),vI vU (wd D 1),vI vU (wd D 2),vI vU (wd D 3)] (0,0) _ rfl (blk4 (put4 hZz fun j => .int .u64 (wd D j))) Tryz.underlying27 rfl (by kernel_rfl)) rfl ⟨rfl,zae hBz (by omega) _ _ _ _⟩
theorem gsum_num {X Y M : Nat} (hX : X < M) (hY : Y < M) (hM : M ≤ top) : (X + Y) % M = if top ≤ X + Y ∨ ¬ (X + Y) % top < M then ((X + Y) % top + top - M) % top else (X + Y) % top:=by
 generalize top = t at *
 by_cases h : t ≤ X + Y
 ·
  rw [if_pos (Or.inl h),Nat.mod_eq_sub_mod (show t ≤ X + Y from h),Nat.mod_eq_of_lt (show X + Y - t < t by omega),show X + Y - t + t - M = X + Y - M by omega,Nat.mod_eq_of_lt (show X + Y - M < t by omega)]
  rw [Nat.mod_eq_sub_mod (by omega),Nat.mod_eq_of_lt (by omega)]
 ·
  rw [Nat.mod_eq_of_lt (show X + Y < t by omega)]
  by_cases h2 : X + Y < M
  ·
   rw [if_neg (by omega),Nat.mod_eq_of_lt h2]
  ·
   rw [if_pos (Or.inr h2),Nat.mod_eq_sub_mod (show M ≤ X + Y by omega),Nat.mod_eq_of_lt (show X + Y - M < M by omega),show X + Y + t - M = (X + Y - M) + t by omega,Nat.add_mod_right,Nat.mod_eq_of_lt (by omega)]
theorem plus_is (X Y Z : Nat) (u : Bool) (h : (X + Y) % top = Z) (h2 : decide (top ≤ X + Y) = u) (hX : X < top) (hY : Y < top) (w : World) :
  Calls Tryz.prog 73 #[.agg #[vI vU (wd X 0),vI vU (wd X 1),vI vU (wd X 2),vI vU (wd X 3)],.agg #[vI vU (wd Y 0),vI vU (wd Y 1),vI vU (wd Y 2),vI vU (wd Y 3)]] w fun e w' => e = .returned (.tuple #[.agg #[vI vU (wd Z 0),vI vU (wd Z 1),vI vU (wd Z 2),vI vU (wd Z 3)],.bool u]) ∧ Below w.heap.size w w':=by
 subst h; subst h2; exact zgn X Y hX hY w
theorem less_is (X Y : Nat) (u : Bool) (h : decide (X < Y) = u) (hX : X < top) (hY : Y < top) (w : World) :
  Calls Tryz.prog 74 #[.agg #[vI vU (wd X 0),vI vU (wd X 1),vI vU (wd X 2),vI vU (wd X 3)],.agg #[vI vU (wd Y 0),vI vU (wd Y 1),vI vU (wd Y 2),vI vU (wd Y 3)]] w fun e w' => e = .returned (.bool u) ∧ Below w.heap.size w w':=by
 subst h; exact less_calls X Y hX hY w
theorem zhg (X Y Z : Nat) (h : (X + top - Y) % top = Z) (hX : X < top) (hY : Y < top) (w : World) :
  Calls Tryz.prog 75 #[.agg #[vI vU (wd X 0),vI vU (wd X 1),vI vU (wd X 2),vI vU (wd X 3)],.agg #[vI vU (wd Y 0),vI vU (wd Y 1),vI vU (wd Y 2),vI vU (wd Y 3)]] w fun e w' => e = .returned (.agg #[vI vU (wd Z 0),vI vU (wd Z 1),vI vU (wd Z 2),vI vU (wd Z 3)]) ∧ Below w.heap.size w w':=by
 subst h; exact minus_calls X Y hX hY w
theorem gadd_over (X Y M S D : Nat) (hX : X < top) (hY : Y < top) (hM : M < top) (hS : (X + Y) % top = S) (hu : decide (top ≤ X + Y) = true) (hD : (S + top - M) % top = D) (w : World) :
  Calls Tryz.prog 43 #[.agg #[vI vU (wd X 0),vI vU (wd X 1),vI vU (wd X 2),vI vU (wd X 3)],.agg #[vI vU (wd Y 0),vI vU (wd Y 1),vI vU (wd Y 2),vI vU (wd Y 3)],.agg #[vI vU (wd M 0),vI vU (wd M 1),vI vU (wd M 2),vI vU (wd M 3)]] w fun e w' => e = .returned (.agg #[vI vU (wd D 0),vI vU (wd D 1),vI vU (wd D 2),vI vU (wd D 3)]) ∧ Below w.heap.size w w':=by
 have hSt : S < top:=by rw [← hS]; exact Nat.mod_lt _ zbz
 have HS:=veil hS
 have HU:=veil hu
 have HD:=veil hD
 clear hS hu hD
 have hX0 : ((((w.alloc (.cells #[vI vU (wd X 0),vI vU (wd X 1),vI vU (wd X 2),vI vU (wd X 3)] 27)).alloc (.cells #[vI vU (wd Y 0),vI vU (wd Y 1),vI vU (wd Y 2),vI vU (wd Y 3)] 27)).alloc (.cells #[vI vU (wd M 0),vI vU (wd M 1),vI vU (wd M 2),vI vU (wd M 3)] 27)).alloc (.cells #[vI vU 0,vI vU 0,vI vU 0,vI vU 0] 27)).rowIs w.heap.size 27 4 (fun j => .int .u64 (wd X j)):=(((zac (n:=4) (by simp) rfl (arr4 fun j => .int .u64 (wd X j))).alloc _).alloc _).alloc _
 have hY0 : ((((w.alloc (.cells #[vI vU (wd X 0),vI vU (wd X 1),vI vU (wd X 2),vI vU (wd X 3)] 27)).alloc (.cells #[vI vU (wd Y 0),vI vU (wd Y 1),vI vU (wd Y 2),vI vU (wd Y 3)] 27)).alloc (.cells #[vI vU (wd M 0),vI vU (wd M 1),vI vU (wd M 2),vI vU (wd M 3)] 27)).alloc (.cells #[vI vU 0,vI vU 0,vI vU 0,vI vU 0] 27)).rowIs (w.heap.size + 1) 27 4 (fun j => .int .u64 (wd Y j)):=((zac (n:=4) (by simp) rfl (arr4 fun j => .int .u64 (wd Y j))).alloc _).alloc _
 have hM0 : ((((w.alloc (.cells #[vI vU (wd X 0),vI vU (wd X 1),vI vU (wd X 2),vI vU (wd X 3)] 27)).alloc (.cells #[vI vU (wd Y 0),vI vU (wd Y 1),vI vU (wd Y 2),vI vU (wd Y 3)] 27)).alloc (.cells #[vI vU (wd M 0),vI vU (wd M 1),vI vU (wd M 2),vI vU (wd M 3)] 27)).alloc (.cells #[vI vU 0,vI vU 0,vI vU 0,vI vU 0] 27)).rowIs (w.heap.size + 1 + 1) 27 4 (fun j => .int .u64 (wd M j)):=(zac (n:=4) (by simp) rfl (arr4 fun j => .int .u64 (wd M j))).alloc _
 have hZ0 : ((((w.alloc (.cells #[vI vU (wd X 0),vI vU (wd X 1),vI vU (wd X 2),vI vU (wd X 3)] 27)).alloc (.cells #[vI vU (wd Y 0),vI vU (wd Y 1),vI vU (wd Y 2),vI vU (wd Y 3)] 27)).alloc (.cells #[vI vU (wd M 0),vI vU (wd M 1),vI vU (wd M 2),vI vU (wd M 3)] 27)).alloc (.cells #[vI vU 0,vI vU 0,vI vU 0,vI vU 0] 27)).rowIs (w.heap.size + 1 + 1 + 1) 27 4 (fun _ => .int .u64 0):=zac (n:=4) (by simp) rfl (arr4 fun _ => .int .u64 0)
 have hB0 : Below w.heap.size w ((((w.alloc (.cells #[vI vU (wd X 0),vI vU (wd X 1),vI vU (wd X 2),vI vU (wd X 3)] 27)).alloc (.cells #[vI vU (wd Y 0),vI vU (wd Y 1),vI vU (wd Y 2),vI vU (wd Y 3)] 27)).alloc (.cells #[vI vU (wd M 0),vI vU (wd M 1),vI vU (wd M 2),vI vU (wd M 3)] 27)).alloc (.cells #[vI vU 0,vI vU 0,vI vU 0,vI vU 0] 27)):=((((Below.refl _ _).alloc (by simp) _).alloc (by simp) _).alloc (by simp; omega) _).alloc (by simp; omega) _
 go_enter Tryz.func43,Tryz.ntmps43
 obtain ⟨a0,a1,a2,a3⟩:=zad hX0
 obtain ⟨b0,b1,b2,b3⟩:=zad hY0
 go_wp2_with fail
 refine (plus_is X Y S true HS.out HU.out hX hY _).mono ?_
 rintro e w1 ⟨rfl,hb1⟩
 clear a0 a1 a2 a3 b0 b1 b2 b3
 have hM1:=zaa hM0 hb1 hM0.lt
 have hZ1:=zaa hZ0 hb1 hZ0.lt
 have hB1:=hB0.trans (hb1.mono hB0.size)
 have hS2 : (w1.alloc (.cells #[vI vU (wd S 0),vI vU (wd S 1),vI vU (wd S 2),vI vU (wd S 3)] 27)).rowIs w1.heap.size 27 4 (fun j => .int .u64 (wd S j)):=zac (n:=4) rfl rfl (arr4 fun j => .int .u64 (wd S j))
 have hM2:=hM1.alloc (.cells #[vI vU (wd S 0),vI vU (wd S 1),vI vU (wd S 2),vI vU (wd S 3)] 27)
 have hZ2:=hZ1.alloc (.cells #[vI vU (wd S 0),vI vU (wd S 1),vI vU (wd S 2),vI vU (wd S 3)] 27)
 have hB2:=hB1.alloc hB1.size (.cells #[vI vU (wd S 0),vI vU (wd S 1),vI vU (wd S 2),vI vU (wd S 3)] 27)
 have nz:=hZ1.lt
 have nm:=hM1.lt
 clear hX0 hY0 hM0 hZ0 hB0 hb1 hM1 hZ1 hB1
 obtain ⟨s0,s1,s2,s3⟩:=zad hS2
 obtain ⟨m0,m1,m2,m3⟩:=zad hM2
 go_wp2_with fail
 refine (zhg S M D HD.out hSt hM _).mono ?_
 rintro e w5 ⟨rfl,hb5⟩
 clear s0 s1 s2 s3 m0 m1 m2 m3
 have hS5:=zaa hS2 hb5 hS2.lt
 have hZ5:=zaa hZ2 hb5 hZ2.lt
 have hB5:=hB2.trans (hb5.mono hB2.size)
 clear hS2 hM2 hZ2 hB2 hb5
 obtain ⟨t0,t1,t2,t3⟩:=zaj hS5
 obtain ⟨v0,v1,v2,v3⟩:=zad hS5
 go_upto_region 4 with (fail)
 have hTz:=put4 hS5 (fun j => .int .u64 (wd D j))
 have hZz:=zas hZ5 (Nat.ne_of_lt nz) (.int .u64 (wd D 0)) (.int .u64 (wd D 1)) (.int .u64 (wd D 2)) (.int .u64 (wd D 3))
 have hBz:=zae (b:=w1.heap.size) hB5 (by omega) (.int .u64 (wd D 0)) (.int .u64 (wd D 1)) (.int .u64 (wd D 2)) (.int .u64 (wd D 3))
 clear v0 v1 v2 v3 t0 t1 t2 t3 hS5 hZ5 hB5
 generalize ((((w5.setCell ⟨w1.heap.size,0,none⟩ (.int .u64 (wd D 0))).setCell ⟨w1.heap.size,1,none⟩ (.int .u64 (wd D 1))).setCell ⟨w1.heap.size,2,none⟩ (.int .u64 (wd D 2))).setCell ⟨w1.heap.size,3,none⟩ (.int .u64 (wd D 3))) = wz at *
 obtain ⟨p0,p1,p2,p3⟩:=zad hTz
 obtain ⟨d0,d1,d2,d3⟩:=zad hZz
 obtain ⟨f0,f1,f2,f3⟩:=zaj hZz
 go_wp2
 refine bodyPost_ret (results_cell_row rfl _ _ (w.heap.size + 1 + 1 + 1) 27 #[vI vU (wd D 0),vI vU (wd D 1),vI vU (wd D 2),vI vU (wd D 3)] (0,0) _ rfl (blk4 (put4 hZz fun j => .int .u64 (wd D j))) Tryz.underlying27 rfl (by kernel_rfl)) rfl ⟨rfl,zae hBz (by omega) _ _ _ _⟩
theorem gadd_less (X Y M S : Nat) (hX : X < top) (hY : Y < top) (hM : M < top) (hS : (X + Y) % top = S) (hu : decide (top ≤ X + Y) = false) (hl : decide (S < M) = true) (w : World) :
  Calls Tryz.prog 43 #[.agg #[vI vU (wd X 0),vI vU (wd X 1),vI vU (wd X 2),vI vU (wd X 3)],.agg #[vI vU (wd Y 0),vI vU (wd Y 1),vI vU (wd Y 2),vI vU (wd Y 3)],.agg #[vI vU (wd M 0),vI vU (wd M 1),vI vU (wd M 2),vI vU (wd M 3)]] w fun e w' => e = .returned (.agg #[vI vU (wd S 0),vI vU (wd S 1),vI vU (wd S 2),vI vU (wd S 3)]) ∧ Below w.heap.size w w':=by
 have hSt : S < top:=by rw [← hS]; exact Nat.mod_lt _ zbz
 have HS:=veil hS
 have HU:=veil hu
 have HL:=veil hl
 clear hS hu hl
 have hX0 : ((((w.alloc (.cells #[vI vU (wd X 0),vI vU (wd X 1),vI vU (wd X 2),vI vU (wd X 3)] 27)).alloc (.cells #[vI vU (wd Y 0),vI vU (wd Y 1),vI vU (wd Y 2),vI vU (wd Y 3)] 27)).alloc (.cells #[vI vU (wd M 0),vI vU (wd M 1),vI vU (wd M 2),vI vU (wd M 3)] 27)).alloc (.cells #[vI vU 0,vI vU 0,vI vU 0,vI vU 0] 27)).rowIs w.heap.size 27 4 (fun j => .int .u64 (wd X j)):=(((zac (n:=4) (by simp) rfl (arr4 fun j => .int .u64 (wd X j))).alloc _).alloc _).alloc _
 have hY0 : ((((w.alloc (.cells #[vI vU (wd X 0),vI vU (wd X 1),vI vU (wd X 2),vI vU (wd X 3)] 27)).alloc (.cells #[vI vU (wd Y 0),vI vU (wd Y 1),vI vU (wd Y 2),vI vU (wd Y 3)] 27)).alloc (.cells #[vI vU (wd M 0),vI vU (wd M 1),vI vU (wd M 2),vI vU (wd M 3)] 27)).alloc (.cells #[vI vU 0,vI vU 0,vI vU 0,vI vU 0] 27)).rowIs (w.heap.size + 1) 27 4 (fun j => .int .u64 (wd Y j)):=((zac (n:=4) (by simp) rfl (arr4 fun j => .int .u64 (wd Y j))).alloc _).alloc _
 have hM0 : ((((w.alloc (.cells #[vI vU (wd X 0),vI vU (wd X 1),vI vU (wd X 2),vI vU (wd X 3)] 27)).alloc (.cells #[vI vU (wd Y 0),vI vU (wd Y 1),vI vU (wd Y 2),vI vU (wd Y 3)] 27)).alloc (.cells #[vI vU (wd M 0),vI vU (wd M 1),vI vU (wd M 2),vI vU (wd M 3)] 27)).alloc (.cells #[vI vU 0,vI vU 0,vI vU 0,vI vU 0] 27)).rowIs (w.heap.size + 1 + 1) 27 4 (fun j => .int .u64 (wd M j)):=(zac (n:=4) (by simp) rfl (arr4 fun j => .int .u64 (wd M j))).alloc _
 have hZ0 : ((((w.alloc (.cells #[vI vU (wd X 0),vI vU (wd X 1),vI vU (wd X 2),vI vU (wd X 3)] 27)).alloc (.cells #[vI vU (wd Y 0),vI vU (wd Y 1),vI vU (wd Y 2),vI vU (wd Y 3)] 27)).alloc (.cells #[vI vU (wd M 0),vI vU (wd M 1),vI vU (wd M 2),vI vU (wd M 3)] 27)).alloc (.cells #[vI vU 0,vI vU 0,vI vU 0,vI vU 0] 27)).rowIs (w.heap.size + 1 + 1 + 1) 27 4 (fun _ => .int .u64 0):=zac (n:=4) (by simp) rfl (arr4 fun _ => .int .u64 0)
 have hB0 : Below w.heap.size w ((((w.alloc (.cells #[vI vU (wd X 0),vI vU (wd X 1),vI vU (wd X 2),vI vU (wd X 3)] 27)).alloc (.cells #[vI vU (wd Y 0),vI vU (wd Y 1),vI vU (wd Y 2),vI vU (wd Y 3)] 27)).alloc (.cells #[vI vU (wd M 0),vI vU (wd M 1),vI vU (wd M 2),vI vU (wd M 3)] 27)).alloc (.cells #[vI vU 0,vI vU 0,vI vU 0,vI vU 0] 27)):=((((Below.refl _ _).alloc (by simp) _).alloc (by simp) _).alloc (by simp; omega) _).alloc (by simp; omega) _
 go_enter Tryz.func43,Tryz.ntmps43
 obtain ⟨a0,a1,a2,a3⟩:=zad hX0
 obtain ⟨b0,b1,b2,b3⟩:=zad hY0
 go_wp2_with fail
 refine (plus_is X Y S false HS.out HU.out hX hY _).mono ?_
 rintro e w1 ⟨rfl,hb1⟩
 clear a0 a1 a2 a3 b0 b1 b2 b3
 have hM1:=zaa hM0 hb1 hM0.lt
 have hZ1:=zaa hZ0 hb1 hZ0.lt
 have hB1:=hB0.trans (hb1.mono hB0.size)
 have hS2 : (w1.alloc (.cells #[vI vU (wd S 0),vI vU (wd S 1),vI vU (wd S 2),vI vU (wd S 3)] 27)).rowIs w1.heap.size 27 4 (fun j => .int .u64 (wd S j)):=zac (n:=4) rfl rfl (arr4 fun j => .int .u64 (wd S j))
 have hM2:=hM1.alloc (.cells #[vI vU (wd S 0),vI vU (wd S 1),vI vU (wd S 2),vI vU (wd S 3)] 27)
 have hZ2:=hZ1.alloc (.cells #[vI vU (wd S 0),vI vU (wd S 1),vI vU (wd S 2),vI vU (wd S 3)] 27)
 have hB2:=hB1.alloc hB1.size (.cells #[vI vU (wd S 0),vI vU (wd S 1),vI vU (wd S 2),vI vU (wd S 3)] 27)
 have nz:=hZ1.lt
 have nm:=hM1.lt
 clear hX0 hY0 hM0 hZ0 hB0 hb1 hM1 hZ1 hB1
 obtain ⟨s0,s1,s2,s3⟩:=zad hS2
 obtain ⟨m0,m1,m2,m3⟩:=zad hM2
 go_wp2_with fail
 refine (less_is S M true HL.out hSt hM _).mono ?_
 rintro e w3 ⟨rfl,hb3⟩
 clear s0 s1 s2 s3 m0 m1 m2 m3
 have hS3:=zaa hS2 hb3 hS2.lt
 have hM3:=zaa hM2 hb3 hM2.lt
 have hZ3:=zaa hZ2 hb3 hZ2.lt
 have hB3:=hB2.trans (hb3.mono hB2.size)
 clear hS2 hM2 hZ2 hB2 hb3
 obtain ⟨s0,s1,s2,s3⟩:=zad hS3
 obtain ⟨m0,m1,m2,m3⟩:=zad hM3
 obtain ⟨d0,d1,d2,d3⟩:=zad hZ3
 obtain ⟨f0,f1,f2,f3⟩:=zaj hZ3
 go_wp2
 refine bodyPost_ret (results_cell_row rfl _ _ (w.heap.size + 1 + 1 + 1) 27 #[vI vU (wd S 0),vI vU (wd S 1),vI vU (wd S 2),vI vU (wd S 3)] (0,0) _ rfl (blk4 (put4 hZ3 fun j => .int .u64 (wd S j))) Tryz.underlying27 rfl (by kernel_rfl)) rfl ⟨rfl,zae hB3 (by omega) _ _ _ _⟩
theorem gadd_more (X Y M S D : Nat) (hX : X < top) (hY : Y < top) (hM : M < top) (hS : (X + Y) % top = S) (hu : decide (top ≤ X + Y) = false) (hl : decide (S < M) = false) (hD : (S + top - M) % top = D) (w : World) :
  Calls Tryz.prog 43 #[.agg #[vI vU (wd X 0),vI vU (wd X 1),vI vU (wd X 2),vI vU (wd X 3)],.agg #[vI vU (wd Y 0),vI vU (wd Y 1),vI vU (wd Y 2),vI vU (wd Y 3)],.agg #[vI vU (wd M 0),vI vU (wd M 1),vI vU (wd M 2),vI vU (wd M 3)]] w fun e w' => e = .returned (.agg #[vI vU (wd D 0),vI vU (wd D 1),vI vU (wd D 2),vI vU (wd D 3)]) ∧ Below w.heap.size w w':=by
 have hSt : S < top:=by rw [← hS]; exact Nat.mod_lt _ zbz
 have HS:=veil hS
 have HU:=veil hu
 have HL:=veil hl
 have HD:=veil hD
 clear hS hu hl hD
 have hX0 : ((((w.alloc (.cells #[vI vU (wd X 0),vI vU (wd X 1),vI vU (wd X 2),vI vU (wd X 3)] 27)).alloc (.cells #[vI vU (wd Y 0),vI vU (wd Y 1),vI vU (wd Y 2),vI vU (wd Y 3)] 27)).alloc (.cells #[vI vU (wd M 0),vI vU (wd M 1),vI vU (wd M 2),vI vU (wd M 3)] 27)).alloc (.cells #[vI vU 0,vI vU 0,vI vU 0,vI vU 0] 27)).rowIs w.heap.size 27 4 (fun j => .int .u64 (wd X j)):=(((zac (n:=4) (by simp) rfl (arr4 fun j => .int .u64 (wd X j))).alloc _).alloc _).alloc _
 have hY0 : ((((w.alloc (.cells #[vI vU (wd X 0),vI vU (wd X 1),vI vU (wd X 2),vI vU (wd X 3)] 27)).alloc (.cells #[vI vU (wd Y 0),vI vU (wd Y 1),vI vU (wd Y 2),vI vU (wd Y 3)] 27)).alloc (.cells #[vI vU (wd M 0),vI vU (wd M 1),vI vU (wd M 2),vI vU (wd M 3)] 27)).alloc (.cells #[vI vU 0,vI vU 0,vI vU 0,vI vU 0] 27)).rowIs (w.heap.size + 1) 27 4 (fun j => .int .u64 (wd Y j)):=((zac (n:=4) (by simp) rfl (arr4 fun j => .int .u64 (wd Y j))).alloc _).alloc _
 have hM0 : ((((w.alloc (.cells #[vI vU (wd X 0),vI vU (wd X 1),vI vU (wd X 2),vI vU (wd X 3)] 27)).alloc (.cells #[vI vU (wd Y 0),vI vU (wd Y 1),vI vU (wd Y 2),vI vU (wd Y 3)] 27)).alloc (.cells #[vI vU (wd M 0),vI vU (wd M 1),vI vU (wd M 2),vI vU (wd M 3)] 27)).alloc (.cells #[vI vU 0,vI vU 0,vI vU 0,vI vU 0] 27)).rowIs (w.heap.size + 1 + 1) 27 4 (fun j => .int .u64 (wd M j)):=(zac (n:=4) (by simp) rfl (arr4 fun j => .int .u64 (wd M j))).alloc _
 have hZ0 : ((((w.alloc (.cells #[vI vU (wd X 0),vI vU (wd X 1),vI vU (wd X 2),vI vU (wd X 3)] 27)).alloc (.cells #[vI vU (wd Y 0),vI vU (wd Y 1),vI vU (wd Y 2),vI vU (wd Y 3)] 27)).alloc (.cells #[vI vU (wd M 0),vI vU (wd M 1),vI vU (wd M 2),vI vU (wd M 3)] 27)).alloc (.cells #[vI vU 0,vI vU 0,vI vU 0,vI vU 0] 27)).rowIs (w.heap.size + 1 + 1 + 1) 27 4 (fun _ => .int .u64 0):=zac (n:=4) (by simp) rfl (arr4 fun _ => .int .u64 0)
 have hB0 : Below w.heap.size w ((((w.alloc (.cells #[vI vU (wd X 0),vI vU (wd X 1),vI vU (wd X 2),vI vU (wd X 3)] 27)).alloc (.cells #[vI vU (wd Y 0),vI vU (wd Y 1),vI vU (wd Y 2),vI vU (wd Y 3)] 27)).alloc (.cells #[vI vU (wd M 0),vI vU (wd M 1),vI vU (wd M 2),vI vU (wd M 3)] 27)).alloc (.cells #[vI vU 0,vI vU 0,vI vU 0,vI vU 0] 27)):=((((Below.refl _ _).alloc (by simp) _).alloc (by simp) _).alloc (by simp; omega) _).alloc (by simp; omega) _
 go_enter Tryz.func43,Tryz.ntmps43
 obtain ⟨a0,a1,a2,a3⟩:=zad hX0
 obtain ⟨b0,b1,b2,b3⟩:=zad hY0
 go_wp2_with fail
 refine (plus_is X Y S false HS.out HU.out hX hY _).mono ?_
 rintro e w1 ⟨rfl,hb1⟩
 clear a0 a1 a2 a3 b0 b1 b2 b3
 have hM1:=zaa hM0 hb1 hM0.lt
 have hZ1:=zaa hZ0 hb1 hZ0.lt
 have hB1:=hB0.trans (hb1.mono hB0.size)
 have hS2 : (w1.alloc (.cells #[vI vU (wd S 0),vI vU (wd S 1),vI vU (wd S 2),vI vU (wd S 3)] 27)).rowIs w1.heap.size 27 4 (fun j => .int .u64 (wd S j)):=zac (n:=4) rfl rfl (arr4 fun j => .int .u64 (wd S j))
 have hM2:=hM1.alloc (.cells #[vI vU (wd S 0),vI vU (wd S 1),vI vU (wd S 2),vI vU (wd S 3)] 27)
 have hZ2:=hZ1.alloc (.cells #[vI vU (wd S 0),vI vU (wd S 1),vI vU (wd S 2),vI vU (wd S 3)] 27)
 have hB2:=hB1.alloc hB1.size (.cells #[vI vU (wd S 0),vI vU (wd S 1),vI vU (wd S 2),vI vU (wd S 3)] 27)
 have nz:=hZ1.lt
 have nm:=hM1.lt
 clear hX0 hY0 hM0 hZ0 hB0 hb1 hM1 hZ1 hB1
 obtain ⟨s0,s1,s2,s3⟩:=zad hS2
 obtain ⟨m0,m1,m2,m3⟩:=zad hM2
 go_wp2_with fail
 refine (less_is S M false HL.out hSt hM _).mono ?_
 rintro e w3 ⟨rfl,hb3⟩
 clear s0 s1 s2 s3 m0 m1 m2 m3
 have hS3:=zaa hS2 hb3 hS2.lt
 have hM3:=zaa hM2 hb3 hM2.lt
 have hZ3:=zaa hZ2 hb3 hZ2.lt
 have hB3:=hB2.trans (hb3.mono hB2.size)
 clear hS2 hM2 hZ2 hB2 hb3
 obtain ⟨s0,s1,s2,s3⟩:=zad hS3
 obtain ⟨m0,m1,m2,m3⟩:=zad hM3
 go_wp2_with fail
 refine (zhg S M D HD.out hSt hM _).mono ?_
 rintro e w5 ⟨rfl,hb5⟩
 clear s0 s1 s2 s3 m0 m1 m2 m3
 have hS5:=zaa hS3 hb5 hS3.lt
 have hZ5:=zaa hZ3 hb5 hZ3.lt
 have hB5:=hB3.trans (hb5.mono hB3.size)
 clear hS3 hM3 hZ3 hB3 hb5
 obtain ⟨t0,t1,t2,t3⟩:=zaj hS5
 obtain ⟨v0,v1,v2,v3⟩:=zad hS5
 go_upto_region 4 with (fail)
 have hTz:=put4 hS5 (fun j => .int .u64 (wd D j))
 have hZz:=zas hZ5 (Nat.ne_of_lt nz) (.int .u64 (wd D 0)) (.int .u64 (wd D 1)) (.int .u64 (wd D 2)) (.int .u64 (wd D 3))
 have hBz:=zae (b:=w1.heap.size) hB5 (by omega) (.int .u64 (wd D 0)) (.int .u64 (wd D 1)) (.int .u64 (wd D 2)) (.int .u64 (wd D 3))
 clear v0 v1 v2 v3 t0 t1 t2 t3 hS5 hZ5 hB5
 generalize ((((w5.setCell ⟨w1.heap.size,0,none⟩ (.int .u64 (wd D 0))).setCell ⟨w1.heap.size,1,none⟩ (.int .u64 (wd D 1))).setCell ⟨w1.heap.size,2,none⟩ (.int .u64 (wd D 2))).setCell ⟨w1.heap.size,3,none⟩ (.int .u64 (wd D 3))) = wz at *
 obtain ⟨p0,p1,p2,p3⟩:=zad hTz
 obtain ⟨d0,d1,d2,d3⟩:=zad hZz
 obtain ⟨f0,f1,f2,f3⟩:=zaj hZz
 go_wp2
 refine bodyPost_ret (results_cell_row rfl _ _ (w.heap.size + 1 + 1 + 1) 27 #[vI vU (wd D 0),vI vU (wd D 1),vI vU (wd D 2),vI vU (wd D 3)] (0,0) _ rfl (blk4 (put4 hZz fun j => .int .u64 (wd D j))) Tryz.underlying27 rfl (by kernel_rfl)) rfl ⟨rfl,zae hBz (by omega) _ _ _ _⟩
theorem zgu (X Y M : Nat) (hX : X < M) (hY : Y < M) (hM : M < top) (w : World) :
  Calls Tryz.prog 43 #[.agg #[vI vU (wd X 0),vI vU (wd X 1),vI vU (wd X 2),vI vU (wd X 3)],.agg #[vI vU (wd Y 0),vI vU (wd Y 1),vI vU (wd Y 2),vI vU (wd Y 3)],.agg #[vI vU (wd M 0),vI vU (wd M 1),vI vU (wd M 2),vI vU (wd M 3)]] w fun e w' => e = .returned (.agg #[vI vU (wd ((X + Y) % M) 0),vI vU (wd ((X + Y) % M) 1),vI vU (wd ((X + Y) % M) 2),vI vU (wd ((X + Y) % M) 3)]) ∧ Below w.heap.size w w':=by
 have h:=gsum_num hX hY (Nat.le_of_lt hM)
 by_cases h1 : top ≤ X + Y
 ·
  rw [h,if_pos (Or.inl h1)]
  exact gadd_over X Y M _ _ (by omega) (by omega) hM rfl (by simpa using h1) rfl w
 ·
  by_cases h2 : (X + Y) % top < M
  ·
   rw [h,if_neg (by omega)]
   exact gadd_less X Y M _ (by omega) (by omega) hM rfl (by simpa using h1) (by simpa using h2) w
  ·
   rw [h,if_pos (Or.inr h2)]
   exact gadd_more X Y M _ _ (by omega) (by omega) hM rfl (by simpa using h1) (by simpa using h2) rfl w
theorem zcs {wz W : World} (o : Obj) (h : (∀ b o,b < wz.heap.size → W.cell? ⟨b,o,none⟩ = wz.cell? ⟨b,o,none⟩) ∧ Below wz.heap.size wz W) :
  (∀ b i,b < wz.heap.size → (W.alloc o).cell? ⟨b,i,none⟩ = wz.cell? ⟨b,i,none⟩) ∧ Below wz.heap.size wz (W.alloc o) :=
 zbi (w':=W.alloc o) ((Below.refl _ _).alloc (Nat.le_refl _) o) h
theorem keep_fresh {wz : World} (o : Obj) : (∀ b i,b < wz.heap.size → (wz.alloc o).drew.cell? ⟨b,i,none⟩ = wz.cell? ⟨b,i,none⟩) ∧ Below wz.heap.size wz (wz.alloc o).drew :=
 zcs o (zbr wz)
theorem keep_swap {wz W : World} {o o' : Obj} (h : (∀ b i,b < wz.heap.size → (W.alloc o).cell? ⟨b,i,none⟩ = wz.cell? ⟨b,i,none⟩) ∧ Below wz.heap.size wz (W.alloc o)) (hs : wz.heap.size ≤ W.heap.size) :
  (∀ b i,b < wz.heap.size → (W.alloc o').cell? ⟨b,i,none⟩ = wz.cell? ⟨b,i,none⟩) ∧ Below wz.heap.size wz (W.alloc o'):=by
 have e : ∀ b,b < wz.heap.size → (W.alloc o').heap[b]? = (W.alloc o).heap[b]?:=fun b hb => (Below.heap_alloc _ _ _ (by omega)).trans (Below.heap_alloc _ _ _ (by omega)).symm
 refine ⟨fun b i hb => Eq.trans ?_ (h.1 b i hb),?_⟩
 ·
  unfold World.cell?; simp only [e b hb]
 ·
  exact ⟨h.2.os,h.2.tape,h.2.output,by have:=h.2.size; simp at this ⊢; omega,fun b hb => (e b hb).trans (h.2.block b hb)⟩
theorem zem {W w' : World} (hb : Below W.heap.size W w') : (∀ b o,b < W.heap.size → w'.cell? ⟨b,o,none⟩ = W.cell? ⟨b,o,none⟩) ∧ (∀ b o,b < W.heap.size → w'.frozen? ⟨b,o,none⟩ = W.frozen? ⟨b,o,none⟩) ∧ (∀ b,b < W.heap.size → b < w'.heap.size) :=
 ⟨fun b o h => hb.cell (p:=⟨b,o,none⟩) h,fun b o h => hb.frozen (p:=⟨b,o,none⟩) h,fun _ h => Nat.lt_of_lt_of_le h hb.size⟩
theorem keep_put4 {wz W : World} {g : Nat} {v0 v1 v2 v3 : Value} (hg : wz.heap.size ≤ g) (h : (∀ b o,b < wz.heap.size → W.cell? ⟨b,o,none⟩ = wz.cell? ⟨b,o,none⟩) ∧ Below wz.heap.size wz W) :
  (∀ b o,b < wz.heap.size → ((((W.setCell ⟨g,0,none⟩ v0).setCell ⟨g,1,none⟩ v1).setCell ⟨g,2,none⟩ v2).setCell ⟨g,3,none⟩ v3).cell? ⟨b,o,none⟩ = wz.cell? ⟨b,o,none⟩) ∧ Below wz.heap.size wz ((((W.setCell ⟨g,0,none⟩ v0).setCell ⟨g,1,none⟩ v1).setCell ⟨g,2,none⟩ v2).setCell ⟨g,3,none⟩ v3) :=
 ⟨fun b o hlt => (Below.cell (zae (Below.refl wz.heap.size W) hg v0 v1 v2 v3) (p:=⟨b,o,none⟩) hlt).trans (h.1 b o hlt),zae h.2 hg v0 v1 v2 v3⟩
theorem gsub_lo (X Y M D S : Nat) (hX : X < top) (hY : Y < top) (hM : M < top) (hl : decide (X < Y) = true) (hD : (X + top - Y) % top = D) (hS : (D + M) % top = S) (w : World) :
  Calls Tryz.prog 76 #[.agg #[vI vU (wd X 0),vI vU (wd X 1),vI vU (wd X 2),vI vU (wd X 3)],.agg #[vI vU (wd Y 0),vI vU (wd Y 1),vI vU (wd Y 2),vI vU (wd Y 3)],.agg #[vI vU (wd M 0),vI vU (wd M 1),vI vU (wd M 2),vI vU (wd M 3)]] w fun e w' => e = .returned (.agg #[vI vU (wd S 0),vI vU (wd S 1),vI vU (wd S 2),vI vU (wd S 3)]) ∧ Below w.heap.size w w':=by
 have HL:=veil hl
 have HD:=veil hD
 have hDt : D < top:=by rw [← hD]; exact Nat.mod_lt _ zbz
 have HS:=veil hS
 clear hS
 clear hl hD
 have hX0 : ((((w.alloc (.cells #[vI vU (wd X 0),vI vU (wd X 1),vI vU (wd X 2),vI vU (wd X 3)] 27)).alloc (.cells #[vI vU (wd Y 0),vI vU (wd Y 1),vI vU (wd Y 2),vI vU (wd Y 3)] 27)).alloc (.cells #[vI vU (wd M 0),vI vU (wd M 1),vI vU (wd M 2),vI vU (wd M 3)] 27)).alloc (.cells #[vI vU 0,vI vU 0,vI vU 0,vI vU 0] 27)).rowIs w.heap.size 27 4 (fun j => .int .u64 (wd X j)):=(((zac (n:=4) (by simp) rfl (arr4 fun j => .int .u64 (wd X j))).alloc _).alloc _).alloc _
 have hY0 : ((((w.alloc (.cells #[vI vU (wd X 0),vI vU (wd X 1),vI vU (wd X 2),vI vU (wd X 3)] 27)).alloc (.cells #[vI vU (wd Y 0),vI vU (wd Y 1),vI vU (wd Y 2),vI vU (wd Y 3)] 27)).alloc (.cells #[vI vU (wd M 0),vI vU (wd M 1),vI vU (wd M 2),vI vU (wd M 3)] 27)).alloc (.cells #[vI vU 0,vI vU 0,vI vU 0,vI vU 0] 27)).rowIs (w.heap.size + 1) 27 4 (fun j => .int .u64 (wd Y j)):=((zac (n:=4) (by simp) rfl (arr4 fun j => .int .u64 (wd Y j))).alloc _).alloc _
 have hM0 : ((((w.alloc (.cells #[vI vU (wd X 0),vI vU (wd X 1),vI vU (wd X 2),vI vU (wd X 3)] 27)).alloc (.cells #[vI vU (wd Y 0),vI vU (wd Y 1),vI vU (wd Y 2),vI vU (wd Y 3)] 27)).alloc (.cells #[vI vU (wd M 0),vI vU (wd M 1),vI vU (wd M 2),vI vU (wd M 3)] 27)).alloc (.cells #[vI vU 0,vI vU 0,vI vU 0,vI vU 0] 27)).rowIs (w.heap.size + 1 + 1) 27 4 (fun j => .int .u64 (wd M j)):=(zac (n:=4) (by simp) rfl (arr4 fun j => .int .u64 (wd M j))).alloc _
 have hZ0 : ((((w.alloc (.cells #[vI vU (wd X 0),vI vU (wd X 1),vI vU (wd X 2),vI vU (wd X 3)] 27)).alloc (.cells #[vI vU (wd Y 0),vI vU (wd Y 1),vI vU (wd Y 2),vI vU (wd Y 3)] 27)).alloc (.cells #[vI vU (wd M 0),vI vU (wd M 1),vI vU (wd M 2),vI vU (wd M 3)] 27)).alloc (.cells #[vI vU 0,vI vU 0,vI vU 0,vI vU 0] 27)).rowIs (w.heap.size + 1 + 1 + 1) 27 4 (fun _ => .int .u64 0):=zac (n:=4) (by simp) rfl (arr4 fun _ => .int .u64 0)
 have hB0 : Below w.heap.size w ((((w.alloc (.cells #[vI vU (wd X 0),vI vU (wd X 1),vI vU (wd X 2),vI vU (wd X 3)] 27)).alloc (.cells #[vI vU (wd Y 0),vI vU (wd Y 1),vI vU (wd Y 2),vI vU (wd Y 3)] 27)).alloc (.cells #[vI vU (wd M 0),vI vU (wd M 1),vI vU (wd M 2),vI vU (wd M 3)] 27)).alloc (.cells #[vI vU 0,vI vU 0,vI vU 0,vI vU 0] 27)):=((((Below.refl _ _).alloc (by simp) _).alloc (by simp) _).alloc (by simp; omega) _).alloc (by simp; omega) _
 go_enter Tryz.func76,Tryz.ntmps76
 obtain ⟨a0,a1,a2,a3⟩:=zad hX0
 obtain ⟨b0,b1,b2,b3⟩:=zad hY0
 go_wp2_with fail
 refine (less_is X Y true HL.out hX hY _).mono ?_
 rintro e w1 ⟨rfl,hb1⟩
 clear a0 a1 a2 a3 b0 b1 b2 b3
 have hX1:=zaa hX0 hb1 hX0.lt
 have hY1:=zaa hY0 hb1 hY0.lt
 have hM1:=zaa hM0 hb1 hM0.lt
 have hZ1:=zaa hZ0 hb1 hZ0.lt
 have hB1:=hB0.trans (hb1.mono hB0.size)
 clear hX0 hY0 hM0 hZ0 hB0 hb1
 obtain ⟨a0,a1,a2,a3⟩:=zad hX1
 obtain ⟨b0,b1,b2,b3⟩:=zad hY1
 obtain ⟨m0,m1,m2,m3⟩:=zad hM1
 go_wp2_with fail
 have z1:=hX1.lt
 have z2:=hY1.lt
 have z3:=hM1.lt
 have k1:=fun W => zhg X Y D HD.out hX hY W
 have k2:=fun W => plus_is D M S _ HS.out rfl hDt hM W
 clear hX1 hY1 hM1
 go_region_held3 (fun w' => (∀ b o,b < w1.heap.size → w'.cell? ⟨b,o,none⟩ = w1.cell? ⟨b,o,none⟩) ∧ Below w1.heap.size w1 w')
  (first
   | with_reducible exact zbr _
   | with_reducible exact keep_fresh _
   | with_reducible exact zcs _ (by assumption)
   | ((with_reducible refine keep_swap (by assumption) ?_); first | exact Nat.le_refl _ | exact hbm.size | exact Nat.le_trans hbm.size hbp.size)
   | ((with_reducible refine keep_put4 ?_ (by assumption)); first | exact Nat.le_refl _ | exact hbm.size | exact Nat.le_trans hbm.size hbp.size)
   | with_reducible exact zbi (by assumption) (by assumption)
   | fail "no arm")
  (first
   | (go_at_call 75; refine (k1 _).mono ?_; rintro e wm ⟨rfl,hbm⟩; obtain ⟨hmc,hmf,hml⟩:=zem hbm)
   | (go_at_call 73; refine (k2 _).mono ?_; rintro e wp ⟨rfl,hbp⟩; obtain ⟨hpc,hpf,hpl⟩:=zem hbp))
 all_goals rename (_ ∧ Below w1.heap.size w1 _) => hHeld
 ·
  have hT : (wp.alloc (.cells #[vI vU (wd S 0),vI vU (wd S 1),vI vU (wd S 2),vI vU (wd S 3)] 27)).rowIs wp.heap.size 27 4 (fun j => .int .u64 (wd S j)):=zac (n:=4) rfl rfl (arr4 fun j => .int .u64 (wd S j))
  have hZz:=zaa hZ1 hHeld.2 hZ1.lt
  have hBz:=hB1.trans (hHeld.2.mono hB1.size)
  clear hHeld
  generalize wp.alloc (.cells #[vI vU (wd S 0),vI vU (wd S 1),vI vU (wd S 2),vI vU (wd S 3)] 27) = wz at *
  obtain ⟨p0,p1,p2,p3⟩:=zad hT
  obtain ⟨d0,d1,d2,d3⟩:=zad hZz
  obtain ⟨f0,f1,f2,f3⟩:=zaj hZz
  go_wp2
  refine bodyPost_ret (results_cell_row rfl _ _ (w.heap.size + 1 + 1 + 1) 27 #[vI vU (wd S 0),vI vU (wd S 1),vI vU (wd S 2),vI vU (wd S 3)] (0,0) _ rfl (blk4 (put4 hZz fun j => .int .u64 (wd S j))) Tryz.underlying27 rfl (by kernel_rfl)) rfl ⟨rfl,zae hBz (by omega) _ _ _ _⟩
 ·
  have hT : ((((wp.setCell ⟨wm.heap.size,0,none⟩ (.int .u64 (wd S 0))).setCell ⟨wm.heap.size,1,none⟩ (.int .u64 (wd S 1))).setCell ⟨wm.heap.size,2,none⟩ (.int .u64 (wd S 2))).setCell ⟨wm.heap.size,3,none⟩ (.int .u64 (wd S 3))).rowIs wm.heap.size 27 4 (fun j => .int .u64 (wd S j)):=put4 (zaa (zac (n:=4) (f:=fun _ => .int .u64 0) rfl rfl (arr4 fun _ => .int .u64 0)) hbp (by simp)) fun j => .int .u64 (wd S j)
  have hZz:=zaa hZ1 hHeld.2 hZ1.lt
  have hBz:=hB1.trans (hHeld.2.mono hB1.size)
  clear hHeld
  generalize (((wp.setCell ⟨wm.heap.size,0,none⟩ (.int .u64 (wd S 0))).setCell ⟨wm.heap.size,1,none⟩ (.int .u64 (wd S 1))).setCell ⟨wm.heap.size,2,none⟩ (.int .u64 (wd S 2))).setCell ⟨wm.heap.size,3,none⟩ (.int .u64 (wd S 3)) = wz at *
  obtain ⟨p0,p1,p2,p3⟩:=zad hT
  obtain ⟨d0,d1,d2,d3⟩:=zad hZz
  obtain ⟨f0,f1,f2,f3⟩:=zaj hZz
  go_wp2
  refine bodyPost_ret (results_cell_row rfl _ _ (w.heap.size + 1 + 1 + 1) 27 #[vI vU (wd S 0),vI vU (wd S 1),vI vU (wd S 2),vI vU (wd S 3)] (0,0) _ rfl (blk4 (put4 hZz fun j => .int .u64 (wd S j))) Tryz.underlying27 rfl (by kernel_rfl)) rfl ⟨rfl,zae hBz (by omega) _ _ _ _⟩
 ·
  have hT : ((((wp.setCell ⟨w1.heap.size,0,none⟩ (.int .u64 (wd S 0))).setCell ⟨w1.heap.size,1,none⟩ (.int .u64 (wd S 1))).setCell ⟨w1.heap.size,2,none⟩ (.int .u64 (wd S 2))).setCell ⟨w1.heap.size,3,none⟩ (.int .u64 (wd S 3))).rowIs w1.heap.size 27 4 (fun j => .int .u64 (wd S j)):=put4 (zaa (zaa ((zac (n:=4) (f:=fun _ => .int .u64 0) rfl rfl (arr4 fun _ => .int .u64 0)).drew) hbm (by simp)) hbp (Nat.lt_of_lt_of_le (by simp) hbm.size)) fun j => .int .u64 (wd S j)
  have hZz:=zaa hZ1 hHeld.2 hZ1.lt
  have hBz:=hB1.trans (hHeld.2.mono hB1.size)
  clear hHeld
  generalize (((wp.setCell ⟨w1.heap.size,0,none⟩ (.int .u64 (wd S 0))).setCell ⟨w1.heap.size,1,none⟩ (.int .u64 (wd S 1))).setCell ⟨w1.heap.size,2,none⟩ (.int .u64 (wd S 2))).setCell ⟨w1.heap.size,3,none⟩ (.int .u64 (wd S 3)) = wz at *
  obtain ⟨p0,p1,p2,p3⟩:=zad hT
  obtain ⟨d0,d1,d2,d3⟩:=zad hZz
  obtain ⟨f0,f1,f2,f3⟩:=zaj hZz
  go_wp2
  refine bodyPost_ret (results_cell_row rfl _ _ (w.heap.size + 1 + 1 + 1) 27 #[vI vU (wd S 0),vI vU (wd S 1),vI vU (wd S 2),vI vU (wd S 3)] (0,0) _ rfl (blk4 (put4 hZz fun j => .int .u64 (wd S j))) Tryz.underlying27 rfl (by kernel_rfl)) rfl ⟨rfl,zae hBz (by omega) _ _ _ _⟩
theorem gsub_hi (X Y M D : Nat) (hX : X < top) (hY : Y < top) (hl : decide (X < Y) = false) (hD : (X + top - Y) % top = D) (w : World) :
  Calls Tryz.prog 76 #[.agg #[vI vU (wd X 0),vI vU (wd X 1),vI vU (wd X 2),vI vU (wd X 3)],.agg #[vI vU (wd Y 0),vI vU (wd Y 1),vI vU (wd Y 2),vI vU (wd Y 3)],.agg #[vI vU (wd M 0),vI vU (wd M 1),vI vU (wd M 2),vI vU (wd M 3)]] w fun e w' => e = .returned (.agg #[vI vU (wd D 0),vI vU (wd D 1),vI vU (wd D 2),vI vU (wd D 3)]) ∧ Below w.heap.size w w':=by
 have HL:=veil hl
 have HD:=veil hD
 clear hl hD
 have hX0 : ((((w.alloc (.cells #[vI vU (wd X 0),vI vU (wd X 1),vI vU (wd X 2),vI vU (wd X 3)] 27)).alloc (.cells #[vI vU (wd Y 0),vI vU (wd Y 1),vI vU (wd Y 2),vI vU (wd Y 3)] 27)).alloc (.cells #[vI vU (wd M 0),vI vU (wd M 1),vI vU (wd M 2),vI vU (wd M 3)] 27)).alloc (.cells #[vI vU 0,vI vU 0,vI vU 0,vI vU 0] 27)).rowIs w.heap.size 27 4 (fun j => .int .u64 (wd X j)):=(((zac (n:=4) (by simp) rfl (arr4 fun j => .int .u64 (wd X j))).alloc _).alloc _).alloc _
 have hY0 : ((((w.alloc (.cells #[vI vU (wd X 0),vI vU (wd X 1),vI vU (wd X 2),vI vU (wd X 3)] 27)).alloc (.cells #[vI vU (wd Y 0),vI vU (wd Y 1),vI vU (wd Y 2),vI vU (wd Y 3)] 27)).alloc (.cells #[vI vU (wd M 0),vI vU (wd M 1),vI vU (wd M 2),vI vU (wd M 3)] 27)).alloc (.cells #[vI vU 0,vI vU 0,vI vU 0,vI vU 0] 27)).rowIs (w.heap.size + 1) 27 4 (fun j => .int .u64 (wd Y j)):=((zac (n:=4) (by simp) rfl (arr4 fun j => .int .u64 (wd Y j))).alloc _).alloc _
 have hM0 : ((((w.alloc (.cells #[vI vU (wd X 0),vI vU (wd X 1),vI vU (wd X 2),vI vU (wd X 3)] 27)).alloc (.cells #[vI vU (wd Y 0),vI vU (wd Y 1),vI vU (wd Y 2),vI vU (wd Y 3)] 27)).alloc (.cells #[vI vU (wd M 0),vI vU (wd M 1),vI vU (wd M 2),vI vU (wd M 3)] 27)).alloc (.cells #[vI vU 0,vI vU 0,vI vU 0,vI vU 0] 27)).rowIs (w.heap.size + 1 + 1) 27 4 (fun j => .int .u64 (wd M j)):=(zac (n:=4) (by simp) rfl (arr4 fun j => .int .u64 (wd M j))).alloc _
 have hZ0 : ((((w.alloc (.cells #[vI vU (wd X 0),vI vU (wd X 1),vI vU (wd X 2),vI vU (wd X 3)] 27)).alloc (.cells #[vI vU (wd Y 0),vI vU (wd Y 1),vI vU (wd Y 2),vI vU (wd Y 3)] 27)).alloc (.cells #[vI vU (wd M 0),vI vU (wd M 1),vI vU (wd M 2),vI vU (wd M 3)] 27)).alloc (.cells #[vI vU 0,vI vU 0,vI vU 0,vI vU 0] 27)).rowIs (w.heap.size + 1 + 1 + 1) 27 4 (fun _ => .int .u64 0):=zac (n:=4) (by simp) rfl (arr4 fun _ => .int .u64 0)
 have hB0 : Below w.heap.size w ((((w.alloc (.cells #[vI vU (wd X 0),vI vU (wd X 1),vI vU (wd X 2),vI vU (wd X 3)] 27)).alloc (.cells #[vI vU (wd Y 0),vI vU (wd Y 1),vI vU (wd Y 2),vI vU (wd Y 3)] 27)).alloc (.cells #[vI vU (wd M 0),vI vU (wd M 1),vI vU (wd M 2),vI vU (wd M 3)] 27)).alloc (.cells #[vI vU 0,vI vU 0,vI vU 0,vI vU 0] 27)):=((((Below.refl _ _).alloc (by simp) _).alloc (by simp) _).alloc (by simp; omega) _).alloc (by simp; omega) _
 go_enter Tryz.func76,Tryz.ntmps76
 obtain ⟨a0,a1,a2,a3⟩:=zad hX0
 obtain ⟨b0,b1,b2,b3⟩:=zad hY0
 go_wp2_with fail
 refine (less_is X Y false HL.out hX hY _).mono ?_
 rintro e w1 ⟨rfl,hb1⟩
 clear a0 a1 a2 a3 b0 b1 b2 b3
 have hX1:=zaa hX0 hb1 hX0.lt
 have hY1:=zaa hY0 hb1 hY0.lt
 have hM1:=zaa hM0 hb1 hM0.lt
 have hZ1:=zaa hZ0 hb1 hZ0.lt
 have hB1:=hB0.trans (hb1.mono hB0.size)
 clear hX0 hY0 hM0 hZ0 hB0 hb1
 obtain ⟨a0,a1,a2,a3⟩:=zad hX1
 obtain ⟨b0,b1,b2,b3⟩:=zad hY1
 obtain ⟨m0,m1,m2,m3⟩:=zad hM1
 go_wp2_with fail
 refine (zhg X Y D HD.out hX hY _).mono ?_
 rintro e w3 ⟨rfl,hb3⟩
 have hZz:=zaa hZ1 hb3 hZ1.lt
 have hBz:=hB1.trans (hb3.mono hB1.size)
 clear a0 a1 a2 a3 b0 b1 b2 b3 hX1 hY1 hM1 hZ1 hB1 hb3 m0 m1 m2 m3
 obtain ⟨d0,d1,d2,d3⟩:=zad hZz
 obtain ⟨f0,f1,f2,f3⟩:=zaj hZz
 go_wp2
 refine bodyPost_ret (results_cell_row rfl _ _ (w.heap.size + 1 + 1 + 1) 27 #[vI vU (wd D 0),vI vU (wd D 1),vI vU (wd D 2),vI vU (wd D 3)] (0,0) _ rfl (blk4 (put4 hZz fun j => .int .u64 (wd D j))) Tryz.underlying27 rfl (by kernel_rfl)) rfl ⟨rfl,zae hBz (by omega) _ _ _ _⟩
theorem gsub_calls (X Y M : Nat) (hX : X < M) (hY : Y < M) (hM : M < top) (w : World) :
  Calls Tryz.prog 76 #[.agg #[vI vU (wd X 0),vI vU (wd X 1),vI vU (wd X 2),vI vU (wd X 3)],.agg #[vI vU (wd Y 0),vI vU (wd Y 1),vI vU (wd Y 2),vI vU (wd Y 3)],.agg #[vI vU (wd M 0),vI vU (wd M 1),vI vU (wd M 2),vI vU (wd M 3)]] w fun e w' => e = .returned (.agg #[vI vU (wd ((X + M - Y) % M) 0),vI vU (wd ((X + M - Y) % M) 1),vI vU (wd ((X + M - Y) % M) 2),vI vU (wd ((X + M - Y) % M) 3)]) ∧ Below w.heap.size w w':=by
 by_cases h : X < Y
 ·
  exact gsub_lo X Y M _ _ (by omega) (by omega) hM (by simpa using h) rfl (by rw [Nat.mod_eq_of_lt (a:=X + top - Y) (by omega),show X + top - Y + M = (X + M - Y) + top by omega,Nat.add_mod_right,Nat.mod_eq_of_lt (by omega),Nat.mod_eq_of_lt (by omega)]) w
 ·
  exact gsub_hi X Y M _ (by omega) (by omega) (by simpa using h) (by rw [show X + top - Y = (X - Y) + top by omega,Nat.add_mod_right,show X + M - Y = (X - Y) + M by omega,Nat.add_mod_right,Nat.mod_eq_of_lt (by omega),Nat.mod_eq_of_lt (by omega)]) w
def mw (Y i k : Nat) : Nat:=dg w64 Y i * 2 ^ k % 2 ^ 64
theorem mw_zero (Y i : Nat) : mw Y i 0 = dg w64 Y i:=by
 have:=dg_lt zaq Y i
 unfold mw; rw [Nat.pow_zero,Nat.mul_one]; exact Nat.mod_eq_of_lt this
theorem mw_lt (Y i k : Nat) : mw Y i k < 18446744073709551616:=by
 unfold mw; exact Nat.mod_lt _ (by decide)
theorem mw_succ (Y i k : Nat) : (mw Y i k + mw Y i k) % 18446744073709551616 = mw Y i (k + 1):=by
 unfold mw
 show _ % 2 ^ 64 = _
 rw [← Nat.add_mod,Nat.pow_succ 2 k,← Nat.mul_assoc,Nat.mul_two]
theorem mw_top (Y i k : Nat) (hk : k < 64) : 9223372036854775808 ≤ mw Y i k ↔ Y / 2 ^ (64 * i + (63 - k)) % 2 = 1:=by
 unfold mw dg
 obtain ⟨j,hj⟩ : ∃ j,j = 63 - k:=⟨_,rfl⟩
 have e64 : (2 : Nat) ^ 64 = 2 ^ (j + 1) * 2 ^ k:=by rw [← Nat.pow_add]; congr 1; omega
 have e63 : (9223372036854775808 : Nat) = 2 ^ j * 2 ^ k:=by rw [← Nat.pow_add,show j + k = 63 by omega]
 have hp : 0 < 2 ^ k:=Nat.pow_pos (by omega)
 have hq : 0 < 2 ^ j:=Nat.pow_pos (by omega)
 have ew : w64 ^ i = 2 ^ (64 * i):=by unfold w64; rw [show (18446744073709551616 : Nat) = 2 ^ 64 from rfl,← Nat.pow_mul]
 rw [ew,← hj,e64,e63,Nat.mul_mod_mul_right]
 rw [Nat.pow_add 2 (64 * i),← Nat.div_div_eq_div_mul]
 generalize Y / 2 ^ (64 * i) = a
 have h1 : a % w64 % 2 ^ (j + 1) = a % 2 ^ (j + 1):=by
  apply Nat.mod_mod_of_dvd
  unfold w64; rw [show (18446744073709551616 : Nat) = 2 ^ (j + 1) * 2 ^ k from e64]
  exact Nat.dvd_mul_right _ _
 rw [h1,Nat.pow_succ,Nat.mod_mul]
 have h2:=Nat.mod_lt a hq
 generalize a / 2 ^ j = c
 generalize a % 2 ^ j = d at *
 generalize 2 ^ j = p at *
 generalize 2 ^ k = q at *
 constructor
 ·
  intro h
  have h3:=Nat.le_of_mul_le_mul_right h hp
  have : c % 2 = 0 ∨ c % 2 = 1:=by omega
  rcases this with e | e
  ·
   rw [e] at h3; omega
  ·
   exact e
 ·
  intro h
  rw [h]
  exact Nat.mul_le_mul_right _ (by omega)
theorem bits_step (Y n : Nat) : Y / 2 ^ n = 2 * (Y / 2 ^ (n + 1)) + Y / 2 ^ n % 2:=by
 rw [Nat.pow_succ,← Nat.div_div_eq_div_mul]; omega
def acc (X Y M n : Nat) : Nat:=X * (Y / 2 ^ n) % M
theorem acc_lt {X Y M n : Nat} (h : 0 < M) : acc X Y M n < M:=Nat.mod_lt _ h
theorem acc_twice (X Y M n : Nat) (h : Y / 2 ^ n % 2 = 0) : (acc X Y M (n + 1) + acc X Y M (n + 1)) % M = acc X Y M n:=by
 unfold acc
 rw [bits_step Y n,h,← Nat.add_mod]
 congr 1
 generalize Y / 2 ^ (n + 1) = q
 rw [Nat.add_zero,Nat.mul_left_comm]; omega
theorem acc_more (X Y M n : Nat) (h : Y / 2 ^ n % 2 = 1) : ((acc X Y M (n + 1) + acc X Y M (n + 1)) % M + X) % M = acc X Y M n:=by
 unfold acc
 rw [bits_step Y n,h,← Nat.add_mod,Nat.mod_add_mod]
 congr 1
 rw [Nat.mul_add,Nat.mul_left_comm,Nat.mul_one]; omega
theorem acc_start (X Y M n : Nat) (h : Y < 2 ^ n) : acc X Y M n = 0:=by
 unfold acc; rw [Nat.div_eq_of_lt h]; simp
theorem acc_end (X Y M : Nat) : acc X Y M 0 = X * Y % M:=by
 unfold acc; simp
theorem gmul_calls (X Y M : Nat) (hX : X < M) (hY : Y < top) (hM : M < top) (w : World) :
  Calls Tryz.prog 72 #[.agg #[vI vU (wd X 0),vI vU (wd X 1),vI vU (wd X 2),vI vU (wd X 3)],.agg #[vI vU (wd Y 0),vI vU (wd Y 1),vI vU (wd Y 2),vI vU (wd Y 3)],.agg #[vI vU (wd M 0),vI vU (wd M 1),vI vU (wd M 2),vI vU (wd M 3)]] w fun e w' => e = .returned (.agg #[vI vU (wd (X * Y % M) 0),vI vU (wd (X * Y % M) 1),vI vU (wd (X * Y % M) 2),vI vU (wd (X * Y % M) 3)]) ∧ Below w.heap.size w w':=by
 have hM0 : 0 < M:=by omega
 obtain ⟨P,hP⟩ : ∃ P,P = X * Y % M:=⟨_,rfl⟩
 rw [← hP]
 have HP:=veil hP
 clear hP
 have hA0 : (((((w.alloc (.cells #[vI vU (wd X 0),vI vU (wd X 1),vI vU (wd X 2),vI vU (wd X 3)] 27)).alloc (.cells #[vI vU (wd Y 0),vI vU (wd Y 1),vI vU (wd Y 2),vI vU (wd Y 3)] 27)).alloc (.cells #[vI vU (wd M 0),vI vU (wd M 1),vI vU (wd M 2),vI vU (wd M 3)] 27)).alloc (.cells #[vI vU 0,vI vU 0,vI vU 0,vI vU 0] 27)).alloc (.cells #[vI vU 0,vI vU 0,vI vU 0,vI vU 0] 27)).rowIs w.heap.size 27 4 (fun j => .int .u64 (wd X j)):=((((zac (n:=4) (by simp) rfl (arr4 fun j => .int .u64 (wd X j))).alloc _).alloc _).alloc _).alloc _
 have hB0 : (((((w.alloc (.cells #[vI vU (wd X 0),vI vU (wd X 1),vI vU (wd X 2),vI vU (wd X 3)] 27)).alloc (.cells #[vI vU (wd Y 0),vI vU (wd Y 1),vI vU (wd Y 2),vI vU (wd Y 3)] 27)).alloc (.cells #[vI vU (wd M 0),vI vU (wd M 1),vI vU (wd M 2),vI vU (wd M 3)] 27)).alloc (.cells #[vI vU 0,vI vU 0,vI vU 0,vI vU 0] 27)).alloc (.cells #[vI vU 0,vI vU 0,vI vU 0,vI vU 0] 27)).rowIs (w.heap.size + 1) 27 4 (fun j => .int .u64 (wd Y j)):=(((zac (n:=4) (by simp) rfl (arr4 fun j => .int .u64 (wd Y j))).alloc _).alloc _).alloc _
 have hC0 : (((((w.alloc (.cells #[vI vU (wd X 0),vI vU (wd X 1),vI vU (wd X 2),vI vU (wd X 3)] 27)).alloc (.cells #[vI vU (wd Y 0),vI vU (wd Y 1),vI vU (wd Y 2),vI vU (wd Y 3)] 27)).alloc (.cells #[vI vU (wd M 0),vI vU (wd M 1),vI vU (wd M 2),vI vU (wd M 3)] 27)).alloc (.cells #[vI vU 0,vI vU 0,vI vU 0,vI vU 0] 27)).alloc (.cells #[vI vU 0,vI vU 0,vI vU 0,vI vU 0] 27)).rowIs (w.heap.size + 1 + 1) 27 4 (fun j => .int .u64 (wd M j)):=((zac (n:=4) (by simp) rfl (arr4 fun j => .int .u64 (wd M j))).alloc _).alloc _
 have hR0 : (((((w.alloc (.cells #[vI vU (wd X 0),vI vU (wd X 1),vI vU (wd X 2),vI vU (wd X 3)] 27)).alloc (.cells #[vI vU (wd Y 0),vI vU (wd Y 1),vI vU (wd Y 2),vI vU (wd Y 3)] 27)).alloc (.cells #[vI vU (wd M 0),vI vU (wd M 1),vI vU (wd M 2),vI vU (wd M 3)] 27)).alloc (.cells #[vI vU 0,vI vU 0,vI vU 0,vI vU 0] 27)).alloc (.cells #[vI vU 0,vI vU 0,vI vU 0,vI vU 0] 27)).rowIs (w.heap.size + 1 + 1 + 1) 27 4 (fun _ => .int .u64 0):=(zac (n:=4) (by simp) rfl (arr4 fun _ => .int .u64 0)).alloc _
 have hO0 : (((((w.alloc (.cells #[vI vU (wd X 0),vI vU (wd X 1),vI vU (wd X 2),vI vU (wd X 3)] 27)).alloc (.cells #[vI vU (wd Y 0),vI vU (wd Y 1),vI vU (wd Y 2),vI vU (wd Y 3)] 27)).alloc (.cells #[vI vU (wd M 0),vI vU (wd M 1),vI vU (wd M 2),vI vU (wd M 3)] 27)).alloc (.cells #[vI vU 0,vI vU 0,vI vU 0,vI vU 0] 27)).alloc (.cells #[vI vU 0,vI vU 0,vI vU 0,vI vU 0] 27)).rowIs (w.heap.size + 1 + 1 + 1 + 1) 27 4 (fun _ => .int .u64 0):=zac (n:=4) (by simp) rfl (arr4 fun _ => .int .u64 0)
 have hb0 : Below w.heap.size w (((((w.alloc (.cells #[vI vU (wd X 0),vI vU (wd X 1),vI vU (wd X 2),vI vU (wd X 3)] 27)).alloc (.cells #[vI vU (wd Y 0),vI vU (wd Y 1),vI vU (wd Y 2),vI vU (wd Y 3)] 27)).alloc (.cells #[vI vU (wd M 0),vI vU (wd M 1),vI vU (wd M 2),vI vU (wd M 3)] 27)).alloc (.cells #[vI vU 0,vI vU 0,vI vU 0,vI vU 0] 27)).alloc (.cells #[vI vU 0,vI vU 0,vI vU 0,vI vU 0] 27)):=(((((Below.refl _ _).alloc (by simp) _).alloc (by simp) _).alloc (by simp; omega) _).alloc (by simp; omega) _).alloc (by simp; omega) _
 go_enter Tryz.func72,Tryz.ntmps72
 go_wp2
 generalize (((((w.alloc (.cells #[vI vU (wd X 0),vI vU (wd X 1),vI vU (wd X 2),vI vU (wd X 3)] 27)).alloc (.cells #[vI vU (wd Y 0),vI vU (wd Y 1),vI vU (wd Y 2),vI vU (wd Y 3)] 27)).alloc (.cells #[vI vU (wd M 0),vI vU (wd M 1),vI vU (wd M 2),vI vU (wd M 3)] 27)).alloc (.cells #[vI vU 0,vI vU 0,vI vU 0,vI vU 0] 27)).alloc (.cells #[vI vU 0,vI vU 0,vI vU 0,vI vU 0] 27)) = w0 at *
 go_loopw [8] (fun i wr => ∃ k : Nat,k ≤ 4 ∧ i = .int .i64 ((k : Int) - 1) ∧ wr.rowIs w.heap.size 27 4 (fun j => .int .u64 (wd X j)) ∧ wr.rowIs (w.heap.size + 1) 27 4 (fun j => .int .u64 (wd Y j)) ∧ wr.rowIs (w.heap.size + 1 + 1) 27 4 (fun j => .int .u64 (wd M j)) ∧ wr.rowIs (w.heap.size + 1 + 1 + 1) 27 4 (fun _ => .int .u64 0) ∧ wr.rowIs (w.heap.size + 1 + 1 + 1 + 1) 27 4 (fun j => .int .u64 (wd (acc X Y M (64 * k)) j)) ∧ Below w.heap.size w wr)
  (fun i _ => (intOf i + 1).toNat)
 case atStart => exact ⟨4,by omega,rfl,hA0,hB0,hC0,hR0,hO0.congr (fun j hj => by rw [acc_start X Y M _ hY]; unfold wd dg; simp),hb0⟩
 case round =>
  obtain ⟨k,hk,hi,hA,hB,hC,hR,hO,hbel⟩:=hrel
  clear hA0 hB0 hC0 hR0 hO0 hb0
  cases k with
  | zero =>
   subst hi
   have hO:=hO.congr (g:=fun j => .int .u64 (wd P j)) (fun j _ => by rw [Nat.mul_zero,acc_end,← HP.out])
   obtain ⟨o0,o1,o2,o3⟩:=zad hO
   obtain ⟨d0,d1,d2,d3⟩:=zad hR
   obtain ⟨f0,f1,f2,f3⟩:=zaj hR
   go_wp2
   refine bodyPost_ret (results_cell_row rfl _ _ (w.heap.size + 1 + 1 + 1) 27 #[vI vU (wd P 0),vI vU (wd P 1),vI vU (wd P 2),vI vU (wd P 3)] (0,0) _ rfl (blk4 (put4 hR fun j => .int .u64 (wd P j))) Tryz.underlying27 rfl (by kernel_rfl)) rfl ⟨rfl,zae hbel (by omega) _ _ _ _⟩
  | succ k =>
   obtain rfl : _ = Value.int .i64 (k : Int):=hi.trans (by congr 1; omega)
   clear hi
   have hk4 : k < 4:=by omega
   have c1:=hB.cell hk4
   go_wp2
   clear c1
   obtain ⟨wo,hwo⟩ : ∃ wo : World,wo = wr:=⟨_,rfl⟩
   rw [← hwo] at hA hB hC hR hO hbel ⊢
   clear hwo
   go_loopw [9,10] (fun q kk wq => ∃ m : Nat,m ≤ 64 ∧ kk = .int .i64 m ∧ q = .int .u64 (mw Y k m : Nat) ∧ wq.rowIs w.heap.size 27 4 (fun j => .int .u64 (wd X j)) ∧ wq.rowIs (w.heap.size + 1) 27 4 (fun j => .int .u64 (wd Y j)) ∧ wq.rowIs (w.heap.size + 1 + 1) 27 4 (fun j => .int .u64 (wd M j)) ∧ wq.rowIs (w.heap.size + 1 + 1 + 1) 27 4 (fun _ => .int .u64 0) ∧ wq.rowIs (w.heap.size + 1 + 1 + 1 + 1) 27 4 (fun j => .int .u64 (wd (acc X Y M (64 * (k + 1) - m)) j)) ∧ Below w.heap.size w wq)
    (fun _ kk _ => 64 - (intOf kk).toNat)
   case atStart => exact ⟨0,by omega,rfl,by rw [mw_zero]; rfl,hA,hB,hC,hR,hO,hbel⟩
   case round =>
    obtain ⟨m,hm,rfl,rfl,hA,hB,hC,hR,hO,hbel⟩:=hrel
    by_cases hlt : m < 64
    ·
     have hq:=mw_lt Y k m
     have hs : IntKind.u64.wrap ((mw Y k m : Nat) + (mw Y k m : Nat)) = ((mw Y k (m + 1) : Nat) : Int):=by
      rw [IntKind.wrap_u64,← mw_succ]; generalize mw Y k m = z; omega
     have ht:=mw_top Y k m hlt
     obtain ⟨z,hz⟩ : ∃ z : Int,z = ((mw Y k m : Nat) : Int):=⟨_,rfl⟩
     rw [← hz] at hs ⊢
     have hz0 : 0 ≤ z:=by omega
     have hz1 : z < 18446744073709551616:=by omega
     obtain ⟨n,hn⟩ : ∃ n,n = 64 * k + (63 - m):=⟨_,rfl⟩
     rw [← hn] at ht
     rw [show 64 * (k + 1) - m = n + 1 by omega] at hO
     have hVM:=acc_lt (X:=X) (Y:=Y) (n:=n + 1) hM0
     have e1:=acc_twice X Y M n
     have e2:=acc_more X Y M n
     generalize acc X Y M (n + 1) = V at *
     obtain ⟨D,hD⟩ : ∃ D,D = (V + V) % M:=⟨_,rfl⟩
     rw [← hD] at e1 e2
     have hDM : D < M:=by rw [hD]; exact Nat.mod_lt _ hM0
     have h1:=fun W => zgu V V M hVM hVM hM W
     rw [← hD] at h1
     have H1:=veil h1
     clear h1
     obtain ⟨o0,o1,o2,o3⟩:=zad hO
     obtain ⟨c0,c1,c2,c3⟩:=zad hC
     by_cases hbit : 9223372036854775808 ≤ mw Y k m
     ·
      have h2:=fun W => zgu D X M hDM hX hM W
      rw [e2 (ht.1 hbit)] at h2
      have H2:=veil h2
      have hbI : 9223372036854775808 ≤ z:=by omega
      clear h2 e1 e2 hD ht hq hbit hz
      have hN:=veil hn
      clear hn
      obtain ⟨T,hT⟩ : ∃ T,T = acc X Y M n:=⟨_,rfl⟩
      rw [← hT] at H2
      have HT:=veil hT
      clear hT
      go_wp2_with fail
      refine (H1.out _).mono ?_
      rintro e w1 ⟨rfl,hb1⟩
      clear o0 o1 o2 o3 c0 c1 c2 c3
      replace hA:=zaa hA hb1 hA.lt
      replace hB:=zaa hB hb1 hB.lt
      replace hC:=zaa hC hb1 hC.lt
      replace hR:=zaa hR hb1 hR.lt
      replace hO:=zaa hO hb1 hO.lt
      replace hbel:=hbel.trans (hb1.mono hbel.size)
      clear hb1
      obtain ⟨o0,o1,o2,o3⟩:=zad hO
      obtain ⟨f0,f1,f2,f3⟩:=zaj hO
      go_upto_region 10 with (fail)
      replace hA:=zas hA (b':=w.heap.size + 1 + 1 + 1 + 1) (by omega) (.int .u64 (wd D 0)) (.int .u64 (wd D 1)) (.int .u64 (wd D 2)) (.int .u64 (wd D 3))
      replace hB:=zas hB (b':=w.heap.size + 1 + 1 + 1 + 1) (by omega) (.int .u64 (wd D 0)) (.int .u64 (wd D 1)) (.int .u64 (wd D 2)) (.int .u64 (wd D 3))
      replace hC:=zas hC (b':=w.heap.size + 1 + 1 + 1 + 1) (by omega) (.int .u64 (wd D 0)) (.int .u64 (wd D 1)) (.int .u64 (wd D 2)) (.int .u64 (wd D 3))
      replace hR:=zas hR (b':=w.heap.size + 1 + 1 + 1 + 1) (by omega) (.int .u64 (wd D 0)) (.int .u64 (wd D 1)) (.int .u64 (wd D 2)) (.int .u64 (wd D 3))
      replace hbel:=zae (b:=w.heap.size + 1 + 1 + 1 + 1) hbel (by omega) (.int .u64 (wd D 0)) (.int .u64 (wd D 1)) (.int .u64 (wd D 2)) (.int .u64 (wd D 3))
      replace hO:=put4 hO (fun j => .int .u64 (wd D j))
      clear o0 o1 o2 o3 f0 f1 f2 f3
      generalize (((w1.setCell ⟨w.heap.size + 1 + 1 + 1 + 1,0,none⟩ (.int .u64 (wd D 0))).setCell ⟨w.heap.size + 1 + 1 + 1 + 1,1,none⟩ (.int .u64 (wd D 1))).setCell ⟨w.heap.size + 1 + 1 + 1 + 1,2,none⟩ (.int .u64 (wd D 2))).setCell ⟨w.heap.size + 1 + 1 + 1 + 1,3,none⟩ (.int .u64 (wd D 3)) = v1 at *
      obtain ⟨o0,o1,o2,o3⟩:=zad hO
      obtain ⟨c0,c1,c2,c3⟩:=zad hC
      obtain ⟨a0,a1,a2,a3⟩:=zad hA
      go_wp2_with fail
      refine (H2.out _).mono ?_
      rintro e w2 ⟨rfl,hb2⟩
      clear o0 o1 o2 o3 c0 c1 c2 c3 a0 a1 a2 a3
      replace hA:=zaa hA hb2 hA.lt
      replace hB:=zaa hB hb2 hB.lt
      replace hC:=zaa hC hb2 hC.lt
      replace hR:=zaa hR hb2 hR.lt
      replace hO:=zaa hO hb2 hO.lt
      replace hbel:=hbel.trans (hb2.mono hbel.size)
      clear hb2
      obtain ⟨o0,o1,o2,o3⟩:=zad hO
      obtain ⟨f0,f1,f2,f3⟩:=zaj hO
      go_upto_region 12 with (fail)
      replace hA:=zas hA (b':=w.heap.size + 1 + 1 + 1 + 1) (by omega) (.int .u64 (wd T 0)) (.int .u64 (wd T 1)) (.int .u64 (wd T 2)) (.int .u64 (wd T 3))
      replace hB:=zas hB (b':=w.heap.size + 1 + 1 + 1 + 1) (by omega) (.int .u64 (wd T 0)) (.int .u64 (wd T 1)) (.int .u64 (wd T 2)) (.int .u64 (wd T 3))
      replace hC:=zas hC (b':=w.heap.size + 1 + 1 + 1 + 1) (by omega) (.int .u64 (wd T 0)) (.int .u64 (wd T 1)) (.int .u64 (wd T 2)) (.int .u64 (wd T 3))
      replace hR:=zas hR (b':=w.heap.size + 1 + 1 + 1 + 1) (by omega) (.int .u64 (wd T 0)) (.int .u64 (wd T 1)) (.int .u64 (wd T 2)) (.int .u64 (wd T 3))
      replace hbel:=zae (b:=w.heap.size + 1 + 1 + 1 + 1) hbel (by omega) (.int .u64 (wd T 0)) (.int .u64 (wd T 1)) (.int .u64 (wd T 2)) (.int .u64 (wd T 3))
      replace hO:=put4 hO (fun j => .int .u64 (wd T j))
      clear o0 o1 o2 o3 f0 f1 f2 f3
      generalize (((w2.setCell ⟨w.heap.size + 1 + 1 + 1 + 1,0,none⟩ (.int .u64 (wd T 0))).setCell ⟨w.heap.size + 1 + 1 + 1 + 1,1,none⟩ (.int .u64 (wd T 1))).setCell ⟨w.heap.size + 1 + 1 + 1 + 1,2,none⟩ (.int .u64 (wd T 2))).setCell ⟨w.heap.size + 1 + 1 + 1 + 1,3,none⟩ (.int .u64 (wd T 3)) = v2 at *
      obtain ⟨o0,o1,o2,o3⟩:=zad hO
      obtain ⟨c0,c1,c2,c3⟩:=zad hC
      go_wp2
      go_roundw
      case rel => exact ⟨m + 1,by omega,by go_num,rfl,hA,hB,hC,hR,by rw [show 64 * (k + 1) - (m + 1) = n by have:=hN.out; omega,← HT.out]; exact hO,hbel⟩
      case measure => simp [intOf]; omega
     ·
      have e1:=e1 (by have:=ht.2; omega)
      have hbI : z < 9223372036854775808:=by omega
      have hN:=veil hn
      have E1:=veil e1
      clear e1 e2 hD ht hq hbit hz hn
      go_wp2_with fail
      refine (H1.out _).mono ?_
      rintro e w1 ⟨rfl,hb1⟩
      clear o0 o1 o2 o3 c0 c1 c2 c3
      replace hA:=zaa hA hb1 hA.lt
      replace hB:=zaa hB hb1 hB.lt
      replace hC:=zaa hC hb1 hC.lt
      replace hR:=zaa hR hb1 hR.lt
      replace hO:=zaa hO hb1 hO.lt
      replace hbel:=hbel.trans (hb1.mono hbel.size)
      clear hb1
      obtain ⟨o0,o1,o2,o3⟩:=zad hO
      obtain ⟨f0,f1,f2,f3⟩:=zaj hO
      go_upto_region 10 with (fail)
      replace hA:=zas hA (b':=w.heap.size + 1 + 1 + 1 + 1) (by omega) (.int .u64 (wd D 0)) (.int .u64 (wd D 1)) (.int .u64 (wd D 2)) (.int .u64 (wd D 3))
      replace hB:=zas hB (b':=w.heap.size + 1 + 1 + 1 + 1) (by omega) (.int .u64 (wd D 0)) (.int .u64 (wd D 1)) (.int .u64 (wd D 2)) (.int .u64 (wd D 3))
      replace hC:=zas hC (b':=w.heap.size + 1 + 1 + 1 + 1) (by omega) (.int .u64 (wd D 0)) (.int .u64 (wd D 1)) (.int .u64 (wd D 2)) (.int .u64 (wd D 3))
      replace hR:=zas hR (b':=w.heap.size + 1 + 1 + 1 + 1) (by omega) (.int .u64 (wd D 0)) (.int .u64 (wd D 1)) (.int .u64 (wd D 2)) (.int .u64 (wd D 3))
      replace hbel:=zae (b:=w.heap.size + 1 + 1 + 1 + 1) hbel (by omega) (.int .u64 (wd D 0)) (.int .u64 (wd D 1)) (.int .u64 (wd D 2)) (.int .u64 (wd D 3))
      replace hO:=put4 hO (fun j => .int .u64 (wd D j))
      clear o0 o1 o2 o3 f0 f1 f2 f3
      generalize (((w1.setCell ⟨w.heap.size + 1 + 1 + 1 + 1,0,none⟩ (.int .u64 (wd D 0))).setCell ⟨w.heap.size + 1 + 1 + 1 + 1,1,none⟩ (.int .u64 (wd D 1))).setCell ⟨w.heap.size + 1 + 1 + 1 + 1,2,none⟩ (.int .u64 (wd D 2))).setCell ⟨w.heap.size + 1 + 1 + 1 + 1,3,none⟩ (.int .u64 (wd D 3)) = v1 at *
      obtain ⟨o0,o1,o2,o3⟩:=zad hO
      obtain ⟨c0,c1,c2,c3⟩:=zad hC
      go_wp2
      go_roundw
      case rel => exact ⟨m + 1,by omega,by go_num,rfl,hA,hB,hC,hR,by rw [show 64 * (k + 1) - (m + 1) = n by have:=hN.out; omega,← E1.out]; exact hO,hbel⟩
      case measure => simp [intOf]; omega
    ·
     obtain rfl : m = 64:=by omega
     go_wp2
     go_roundw
     case rel => exact ⟨k,by omega,by go_num,hA,hB,hC,hR,by rw [show 64 * (k + 1) - 64 = 64 * k by omega] at hO; exact hO,hbel⟩
     case measure => simp [intOf]
theorem run_items (d : Nat) (xs ys : Array Value) (A B : Nat → Int) (w : World) : ∀ is : List Nat,(∀ i ∈ is,xs[i]? = some (vI vU (A i))) → (∀ i ∈ is,ys[i]? = some (vI vU (B i))) →
  (Op.eqItems (d + 1) 25 1 xs ys is).run Tryz.prog w = .ok (is.all fun i => A i == B i) w
 | [],_,_ => by simp [Op.eqItems]
 | i :: is,hx,hy => by
  have e1:=run_part_plain (P:=Tryz.prog) w (e:=25) (by kernel_rfl) (xs:=xs) (off:=i * 1) (v:=.int .u64 (A i)) (by rw [Nat.mul_one]; exact hx i (by simp))
  have e2:=run_part_plain (P:=Tryz.prog) w (e:=25) (by kernel_rfl) (xs:=ys) (off:=i * 1) (v:=.int .u64 (B i)) (by rw [Nat.mul_one]; exact hy i (by simp))
  have e3:=run_equalIn_int (P:=Tryz.prog) w d 25 .u64 .u64 (A i) (B i) Tryz.underlying25
  have ih:=run_items d xs ys A B w is (fun j hj => hx j (by simp [hj])) (fun j hj => hy j (by simp [hj]))
  simp only [Op.eqItems,Sem.run_bind,e1,e2,e3,Result.andThen_ok]
  by_cases h : A i = B i
  ·
   simp [h,ih]
  ·
   simp [h]
theorem eql4 (f g : Nat → Int) (w : World) : (binOp .eql 27 (.agg #[vI vU (f 0),vI vU (f 1),vI vU (f 2),vI vU (f 3)]) (.agg #[vI vU (g 0),vI vU (g 1),vI vU (g 2),vI vU (g 3)])).run Tryz.prog w = .ok (.bool ((List.range 4).all fun i => f i == g i)) w:=by
 obtain ⟨i,hi⟩ : ∃ i,Tryz.prog.info? 25 = some i:=Option.isSome_iff_exists.1 (by kernel_rfl)
 have hc : Tryz.prog.cellsOf 25 = 1:=by kernel_rfl
 rw [run_eql_struct,run_equalIn_array (P:=Tryz.prog) w 9999 _ _ Tryz.underlying27 hi,hc]
 rw [run_items 9998 _ _ f g w _ (fun j hj => arr4 (fun j => .int .u64 (f j)) j (by simpa using hj)) (fun j hj => arr4 (fun j => .int .u64 (g j)) j (by simpa using hj))]
 rfl
theorem all_wd (n X Y : Nat) : ((List.range n).all fun i => wd X i == wd Y i) = decide (X % w64 ^ n = Y % w64 ^ n):=by
 rw [Bool.eq_iff_iff]
 simp only [List.all_eq_true,List.mem_range,beq_iff_eq,decide_eq_true_eq]
 constructor
 ·
  intro h
  exact eq_of_dg zaq n fun i hi => by have:=h i hi; unfold wd at this; omega
 ·
  intro h i hi
  unfold wd
  rw [← zcg X n i hi,← zcg Y n i hi,h]
theorem eql_num {X Y : Nat} (hX : X < top) (hY : Y < top) (w : World) : (binOp .eql 27 (.agg #[vI vU (wd X 0),vI vU (wd X 1),vI vU (wd X 2),vI vU (wd X 3)]) (.agg #[vI vU (wd Y 0),vI vU (wd Y 1),vI vU (wd Y 2),vI vU (wd Y 3)])).run Tryz.prog w = .ok (.bool (decide (X = Y))) w:=by
 have h:=eql4 (wd X) (wd Y) w
 rw [all_wd 4 X Y] at h
 have e : (X % w64 ^ 4 = Y % w64 ^ 4) = (X = Y):=by rw [Nat.mod_eq_of_lt (show X < w64 ^ 4 from hX),Nat.mod_eq_of_lt (show Y < w64 ^ 4 from hY)]
 simpa [e] using h
end Go.Proofs.YthlbemnbmbmjhaaGreatDoor
