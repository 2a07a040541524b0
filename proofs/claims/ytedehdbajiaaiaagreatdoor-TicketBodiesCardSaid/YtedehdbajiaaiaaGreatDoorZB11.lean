/-
  Of G8 G9.
-/
import Derived.Test.YtedehdbajiaaiaaGreatDoorZB5
import Derived.Test.YtedehdbajiaaiaaGreatDoorZB4
set_option maxRecDepth 1000000
set_option maxHeartbeats 20000000
namespace Go.Proofs.YtedehdbajiaaiaaGreatDoor
open Go.RowKit
open Go.Value renaming int → vI
open Go.IntKind renaming u64 → vU
open Go.Act renaming put → aP
open List renaming setIfInBounds_toArray → lA, set_cons_zero → lZ, set_cons_succ → lS
theorem zit (X m : Nat) : dg w64 (X / 2) m = dg w64 X m / 2 + 9223372036854775808 * (dg w64 X (m + 1) % 2):=by
 unfold dg
 rw [Nat.pow_succ,← Nat.div_div_eq_div_mul,Nat.div_div_eq_div_mul X 2,Nat.mul_comm 2,← Nat.div_div_eq_div_mul]
 generalize X / w64 ^ m = q
 unfold w64
 omega
theorem zfz (X m : Nat) (h : wd X (m + 1) % 2 = 1) : wd X m / 2 + 9223372036854775808 = wd (X / 2) m:=by
 have e:=zit X m
 unfold wd at *
 rw [e]; generalize dg w64 X m = a at *; generalize dg w64 X (m + 1) = b at *; omega
theorem zea (X m : Nat) (h : wd X (m + 1) % 2 = 0) : wd X m / 2 = wd (X / 2) m:=by
 have e:=zit X m
 unfold wd at *
 rw [e]; generalize dg w64 X m = a at *; generalize dg w64 X (m + 1) = b at *; omega
theorem zfy (X : Nat) (h : X < top) : wd X 3 / 2 = wd (X / 2) 3 :=
 zea X 3 (by rw [(num_wide X h).1]; rfl)
theorem zjt {X Z k : Nat} {v : Value} (_hk : k < 4) : ∀ i,i < 4 → (if i = k then Value.int .u64 (wd Z k) else if i = k then v else Value.int .u64 (if i < k then wd Z i else wd X i)) = Value.int .u64 (if i < k + 1 then wd Z i else wd X i):=by
 intro i _
 by_cases h : i = k
 ·
  subst h; simp
 ·
  rw [if_neg h,if_neg h]; by_cases h2 : i < k
  ·
   rw [if_pos h2,if_pos (by omega)]
  ·
   rw [if_neg h2,if_neg (by omega)]
theorem wd_par (X : Nat) : wd X 0 % 2 = ((X % 2 : Nat) : Int):=by
 unfold wd dg w64; rw [Nat.pow_zero,Nat.div_one]; omega
def HalfTop (S D : Nat) : Prop:=(∀ j,j < 3 → wd (S / 2) j = wd D j) ∧ wd (S / 2) 3 + 9223372036854775808 = wd D 3 ∧ wd (S / 2) 3 < 9223372036854775808
theorem halfTop {S : Nat} (h : S < top) : HalfTop S ((S + top) / 2):=by
 have h1 : ∀ j,j < 4 → dg w64 (S + top) j = dg w64 S j:=by
  intro j hj
  have e:=zdi (B:=w64) (S + top) 4 j hj
  have e0 : (S + top) % w64 ^ 4 = S:=by
   rw [show w64 ^ 4 = top from rfl,Nat.add_mod_right]; exact Nat.mod_eq_of_lt h
  rw [← e,e0]
 have h2 : dg w64 (S + top) 4 = 1:=by
  show (S + top) / top % w64 = 1
  rw [Nat.add_div_right _ zce,Nat.div_eq_of_lt h]; rfl
 have h3 : dg w64 S 4 = 0:=by
  show S / top % w64 = 0
  rw [Nat.div_eq_of_lt h]; rfl
 have hl:=dg_lt zbc S 3
 have e3:=zit S 3
 have f3:=zit (S + top) 3
 rw [h3] at e3
 rw [h2,h1 3 (by omega)] at f3
 have hw : w64 = 18446744073709551616:=rfl
 refine ⟨fun j hj => ?_,?_,?_⟩
 ·
  unfold wd; rw [zit,zit (S + top),h1 j (by omega),h1 (j + 1) (by omega)]
 ·
  unfold wd; rw [e3,f3]; omega
 ·
  unfold wd; rw [e3]; omega
theorem ghalf_even (X M : Nat) (hVt : X < top) (h : X % 2 = 0) (w : World) :
  Calls Tryz.prog 76 #[.agg #[vI vU (wd X 0),vI vU (wd X 1),vI vU (wd X 2),vI vU (wd X 3)],.agg #[vI vU (wd M 0),vI vU (wd M 1),vI vU (wd M 2),vI vU (wd M 3)]] w fun e w' => e = .returned (.agg #[vI vU (wd (X / 2) 0),vI vU (wd (X / 2) 1),vI vU (wd (X / 2) 2),vI vU (wd (X / 2) 3)]) ∧ Below w.heap.size w w':=by
 have hp : wd X 0 % 2 = 0:=by rw [wd_par,h]; rfl
 have hp0:=wd_lo X 0
 clear h
 have hA0 : (((w.alloc (.cells #[vI vU (wd X 0),vI vU (wd X 1),vI vU (wd X 2),vI vU (wd X 3)] 26)).alloc (.cells #[vI vU (wd M 0),vI vU (wd M 1),vI vU (wd M 2),vI vU (wd M 3)] 26)).alloc (.cells #[vI vU 0,vI vU 0,vI vU 0,vI vU 0] 26)).rowIs w.heap.size 26 4 (fun j => .int .u64 (wd X j)):=((zag (n:=4) (by simp) rfl (arr4 fun j => .int .u64 (wd X j))).alloc _).alloc _
 have hM0 : (((w.alloc (.cells #[vI vU (wd X 0),vI vU (wd X 1),vI vU (wd X 2),vI vU (wd X 3)] 26)).alloc (.cells #[vI vU (wd M 0),vI vU (wd M 1),vI vU (wd M 2),vI vU (wd M 3)] 26)).alloc (.cells #[vI vU 0,vI vU 0,vI vU 0,vI vU 0] 26)).rowIs (w.heap.size + 1) 26 4 (fun j => .int .u64 (wd M j)):=(zag (n:=4) (by simp) rfl (arr4 fun j => .int .u64 (wd M j))).alloc _
 have hR0 : (((w.alloc (.cells #[vI vU (wd X 0),vI vU (wd X 1),vI vU (wd X 2),vI vU (wd X 3)] 26)).alloc (.cells #[vI vU (wd M 0),vI vU (wd M 1),vI vU (wd M 2),vI vU (wd M 3)] 26)).alloc (.cells #[vI vU 0,vI vU 0,vI vU 0,vI vU 0] 26)).rowIs (w.heap.size + 1 + 1) 26 4 (fun _ => .int .u64 0):=zag (n:=4) (by simp) rfl (arr4 fun _ => .int .u64 0)
 have hb0 : Below w.heap.size w (((w.alloc (.cells #[vI vU (wd X 0),vI vU (wd X 1),vI vU (wd X 2),vI vU (wd X 3)] 26)).alloc (.cells #[vI vU (wd M 0),vI vU (wd M 1),vI vU (wd M 2),vI vU (wd M 3)] 26)).alloc (.cells #[vI vU 0,vI vU 0,vI vU 0,vI vU 0] 26)):=(((Below.refl _ _).alloc (by simp) _).alloc (by simp) _).alloc (by simp; omega) _
 go_enter Tryz.func76,Tryz.ntmps76
 go_wp2_with fail
 clear hp hp0 hM0
 generalize (((w.alloc (.cells #[vI vU (wd X 0),vI vU (wd X 1),vI vU (wd X 2),vI vU (wd X 3)] 26)).alloc (.cells #[vI vU (wd M 0),vI vU (wd M 1),vI vU (wd M 2),vI vU (wd M 3)] 26)).alloc (.cells #[vI vU 0,vI vU 0,vI vU 0,vI vU 0] 26)) = w0 at *
 go_loopw [6] (fun i wr => ∃ k : Nat,k ≤ 4 ∧ i = .int .i64 (k : Int) ∧ wr.rowIs w.heap.size 26 4 (fun j => .int .u64 (if j < k then wd (X / 2) j else wd X j)) ∧ wr.rowIs (w.heap.size + 1 + 1) 26 4 (fun _ => .int .u64 0) ∧ Below w.heap.size w wr)
  (fun i _ => 4 - (intOf i).toNat)
 case atStart => exact ⟨0,by omega,rfl,hA0.congr (fun j _ => by simp),hR0,hb0⟩
 case round =>
  obtain ⟨k,hk,rfl,hA,hR,hbel⟩:=hrel
  clear hA0 hR0 hb0
  by_cases hlt : k < 4
  ·
   have c1:=hA.cell hlt
   rw [if_neg (by omega)] at c1
   have f1:=hA.frozen k
   have l1:=wd_lo X k
   have u1:=wd_le X k
   by_cases h3 : k < 3
   ·
    have c2:=hA.cell (show k + 1 < 4 by omega)
    rw [if_neg (by omega)] at c2
    have h3i : (k : Int) < 3:=by omega
    have l2:=wd_lo X (k + 1)
    by_cases hb : wd X (k + 1) % 2 = 1
    ·
     have HC:=veil (zfz X k hb)
     go_wp2
     go_roundw
     case rel =>
      rw [HC.out]
      exact ⟨k + 1,by omega,by go_num,((hA.set k _).set k _).congr (zjt hlt),zax (zax hR (by omega) _) (by omega) _,zat (zat hbel (by omega) _) (by omega) _⟩
     case measure => simp [intOf]; omega
    ·
     have hb0 : wd X (k + 1) % 2 = 0:=by omega
     have HC:=veil (zea X k hb0)
     clear hb
     go_wp2
     go_roundw
     case rel =>
      rw [HC.out]
      exact ⟨k + 1,by omega,by go_num,(hA.set k _).congr (zep hlt),zax hR (by omega) _,zat hbel (by omega) _⟩
     case measure => simp [intOf]; omega
   ·
    obtain rfl : k = 3:=by omega
    have HC:=veil (zfy X hVt)
    go_wp2
    go_roundw
    case rel =>
     rw [HC.out]
     exact ⟨4,by omega,by go_num,(hA.set 3 _).congr (zep (by omega)),zax hR (by omega) _,zat hbel (by omega) _⟩
    case measure => simp [intOf]
  ·
   obtain rfl : k = 4:=by omega
   have hA:=hA.congr (g:=fun j => .int .u64 (wd (X / 2) j)) (fun j hj => by rw [if_pos hj])
   obtain ⟨a0,a1,a2,a3⟩:=zac hA
   obtain ⟨d0,d1,d2,d3⟩:=zac hR
   obtain ⟨f0,f1,f2,f3⟩:=zah hR
   go_wp2
   refine bodyPost_ret (results_cell_row rfl _ _ (w.heap.size + 1 + 1) 26 #[vI vU (wd ((X / 2)) 0),vI vU (wd ((X / 2)) 1),vI vU (wd ((X / 2)) 2),vI vU (wd ((X / 2)) 3)] (0,0) _ rfl (blk4 (put4 hR fun j => .int .u64 (wd (X / 2) j))) Tryz.underlying26 rfl (by kernel_rfl)) rfl ⟨rfl,zaj hbel (by omega) _ _ _ _⟩
theorem ghalf_no (X M S : Nat) (hX : X < top) (hM : M < top) (h : X % 2 = 1) (hS : (X + M) % top = S) (hu : decide (top ≤ X + M) = false) (w : World) :
  Calls Tryz.prog 76 #[.agg #[vI vU (wd X 0),vI vU (wd X 1),vI vU (wd X 2),vI vU (wd X 3)],.agg #[vI vU (wd M 0),vI vU (wd M 1),vI vU (wd M 2),vI vU (wd M 3)]] w fun e w' => e = .returned (.agg #[vI vU (wd ((S / 2)) 0),vI vU (wd ((S / 2)) 1),vI vU (wd ((S / 2)) 2),vI vU (wd ((S / 2)) 3)]) ∧ Below w.heap.size w w':=by
 have hp : wd X 0 % 2 = 1:=by rw [wd_par,h]; rfl
 have hp0:=wd_lo X 0
 have hVt : S < top:=by rw [← hS]; exact Nat.mod_lt _ zce
 have HS:=veil hS
 have HU:=veil hu
 clear h hS hu
 have hA0 : (((w.alloc (.cells #[vI vU (wd X 0),vI vU (wd X 1),vI vU (wd X 2),vI vU (wd X 3)] 26)).alloc (.cells #[vI vU (wd M 0),vI vU (wd M 1),vI vU (wd M 2),vI vU (wd M 3)] 26)).alloc (.cells #[vI vU 0,vI vU 0,vI vU 0,vI vU 0] 26)).rowIs w.heap.size 26 4 (fun j => .int .u64 (wd X j)):=((zag (n:=4) (by simp) rfl (arr4 fun j => .int .u64 (wd X j))).alloc _).alloc _
 have hM0 : (((w.alloc (.cells #[vI vU (wd X 0),vI vU (wd X 1),vI vU (wd X 2),vI vU (wd X 3)] 26)).alloc (.cells #[vI vU (wd M 0),vI vU (wd M 1),vI vU (wd M 2),vI vU (wd M 3)] 26)).alloc (.cells #[vI vU 0,vI vU 0,vI vU 0,vI vU 0] 26)).rowIs (w.heap.size + 1) 26 4 (fun j => .int .u64 (wd M j)):=(zag (n:=4) (by simp) rfl (arr4 fun j => .int .u64 (wd M j))).alloc _
 have hR0 : (((w.alloc (.cells #[vI vU (wd X 0),vI vU (wd X 1),vI vU (wd X 2),vI vU (wd X 3)] 26)).alloc (.cells #[vI vU (wd M 0),vI vU (wd M 1),vI vU (wd M 2),vI vU (wd M 3)] 26)).alloc (.cells #[vI vU 0,vI vU 0,vI vU 0,vI vU 0] 26)).rowIs (w.heap.size + 1 + 1) 26 4 (fun _ => .int .u64 0):=zag (n:=4) (by simp) rfl (arr4 fun _ => .int .u64 0)
 have hb0 : Below w.heap.size w (((w.alloc (.cells #[vI vU (wd X 0),vI vU (wd X 1),vI vU (wd X 2),vI vU (wd X 3)] 26)).alloc (.cells #[vI vU (wd M 0),vI vU (wd M 1),vI vU (wd M 2),vI vU (wd M 3)] 26)).alloc (.cells #[vI vU 0,vI vU 0,vI vU 0,vI vU 0] 26)):=(((Below.refl _ _).alloc (by simp) _).alloc (by simp) _).alloc (by simp; omega) _
 go_enter Tryz.func76,Tryz.ntmps76
 obtain ⟨a0,a1,a2,a3⟩:=zac hA0
 obtain ⟨c0,c1,c2,c3⟩:=zac hM0
 go_wp2_with fail
 refine (zir X M S false HS.out HU.out hX hM _).mono ?_
 rintro e w1 ⟨rfl,hb1⟩
 clear a0 a1 a2 a3 c0 c1 c2 c3 hp hp0
 replace hA0:=zab hA0 hb1 hA0.lt
 replace hR0:=zab hR0 hb1 hR0.lt
 replace hb0:=hb0.trans (hb1.mono hb0.size)
 clear hb1 hM0
 obtain ⟨a0,a1,a2,a3⟩:=zac hA0
 obtain ⟨f0,f1,f2,f3⟩:=zah hA0
 go_wp2_with fail
 replace hR0:=zai hR0 (b':=w.heap.size) (by omega) (.int .u64 (wd S 0)) (.int .u64 (wd S 1)) (.int .u64 (wd S 2)) (.int .u64 (wd S 3))
 replace hb0:=zaj (b:=w.heap.size) hb0 (by omega) (.int .u64 (wd S 0)) (.int .u64 (wd S 1)) (.int .u64 (wd S 2)) (.int .u64 (wd S 3))
 replace hA0:=put4 hA0 (fun j => .int .u64 (wd S j))
 clear a0 a1 a2 a3 f0 f1 f2 f3
 generalize ((((w1.setCell ⟨w.heap.size,0,none⟩ (.int .u64 (wd S 0))).setCell ⟨w.heap.size,1,none⟩ (.int .u64 (wd S 1))).setCell ⟨w.heap.size,2,none⟩ (.int .u64 (wd S 2))).setCell ⟨w.heap.size,3,none⟩ (.int .u64 (wd S 3))) = w0 at *
 go_loopw [6] (fun i wr => ∃ k : Nat,k ≤ 4 ∧ i = .int .i64 (k : Int) ∧ wr.rowIs w.heap.size 26 4 (fun j => .int .u64 (if j < k then wd (S / 2) j else wd S j)) ∧ wr.rowIs (w.heap.size + 1 + 1) 26 4 (fun _ => .int .u64 0) ∧ Below w.heap.size w wr)
  (fun i _ => 4 - (intOf i).toNat)
 case atStart => exact ⟨0,by omega,rfl,hA0.congr (fun j _ => by simp),hR0,hb0⟩
 case round =>
  obtain ⟨k,hk,rfl,hA,hR,hbel⟩:=hrel
  clear hA0 hR0 hb0
  by_cases hlt : k < 4
  ·
   have c1:=hA.cell hlt
   rw [if_neg (by omega)] at c1
   have f1:=hA.frozen k
   have l1:=wd_lo S k
   have u1:=wd_le S k
   by_cases h3 : k < 3
   ·
    have c2:=hA.cell (show k + 1 < 4 by omega)
    rw [if_neg (by omega)] at c2
    have h3i : (k : Int) < 3:=by omega
    have l2:=wd_lo S (k + 1)
    by_cases hb : wd S (k + 1) % 2 = 1
    ·
     have HC:=veil (zfz S k hb)
     go_wp2
     go_roundw
     case rel =>
      rw [HC.out]
      exact ⟨k + 1,by omega,by go_num,((hA.set k _).set k _).congr (zjt hlt),zax (zax hR (by omega) _) (by omega) _,zat (zat hbel (by omega) _) (by omega) _⟩
     case measure => simp [intOf]; omega
    ·
     have hb0 : wd S (k + 1) % 2 = 0:=by omega
     have HC:=veil (zea S k hb0)
     clear hb
     go_wp2
     go_roundw
     case rel =>
      rw [HC.out]
      exact ⟨k + 1,by omega,by go_num,(hA.set k _).congr (zep hlt),zax hR (by omega) _,zat hbel (by omega) _⟩
     case measure => simp [intOf]; omega
   ·
    obtain rfl : k = 3:=by omega
    have HC:=veil (zfy S hVt)
    go_wp2
    go_roundw
    case rel =>
     rw [HC.out]
     exact ⟨4,by omega,by go_num,(hA.set 3 _).congr (zep (by omega)),zax hR (by omega) _,zat hbel (by omega) _⟩
    case measure => simp [intOf]
  ·
   obtain rfl : k = 4:=by omega
   have hA:=hA.congr (g:=fun j => .int .u64 (wd (S / 2) j)) (fun j hj => by rw [if_pos hj])
   obtain ⟨a0,a1,a2,a3⟩:=zac hA
   obtain ⟨d0,d1,d2,d3⟩:=zac hR
   obtain ⟨f0,f1,f2,f3⟩:=zah hR
   go_wp2
   refine bodyPost_ret (results_cell_row rfl _ _ (w.heap.size + 1 + 1) 26 #[vI vU (wd ((S / 2)) 0),vI vU (wd ((S / 2)) 1),vI vU (wd ((S / 2)) 2),vI vU (wd ((S / 2)) 3)] (0,0) _ rfl (blk4 (put4 hR fun j => .int .u64 (wd (S / 2) j))) Tryz.underlying26 rfl (by kernel_rfl)) rfl ⟨rfl,zaj hbel (by omega) _ _ _ _⟩
theorem ghalf_over (X M S : Nat) (D : Nat) (hD : HalfTop S D) (hX : X < top) (hM : M < top) (h : X % 2 = 1) (hS : (X + M) % top = S) (hu : decide (top ≤ X + M) = true) (w : World) :
  Calls Tryz.prog 76 #[.agg #[vI vU (wd X 0),vI vU (wd X 1),vI vU (wd X 2),vI vU (wd X 3)],.agg #[vI vU (wd M 0),vI vU (wd M 1),vI vU (wd M 2),vI vU (wd M 3)]] w fun e w' => e = .returned (.agg #[vI vU (wd D 0),vI vU (wd D 1),vI vU (wd D 2),vI vU (wd D 3)]) ∧ Below w.heap.size w w':=by
 have hp : wd X 0 % 2 = 1:=by rw [wd_par,h]; rfl
 have hp0:=wd_lo X 0
 have hVt : S < top:=by rw [← hS]; exact Nat.mod_lt _ zce
 have HS:=veil hS
 have HU:=veil hu
 clear h hS hu
 have hA0 : (((w.alloc (.cells #[vI vU (wd X 0),vI vU (wd X 1),vI vU (wd X 2),vI vU (wd X 3)] 26)).alloc (.cells #[vI vU (wd M 0),vI vU (wd M 1),vI vU (wd M 2),vI vU (wd M 3)] 26)).alloc (.cells #[vI vU 0,vI vU 0,vI vU 0,vI vU 0] 26)).rowIs w.heap.size 26 4 (fun j => .int .u64 (wd X j)):=((zag (n:=4) (by simp) rfl (arr4 fun j => .int .u64 (wd X j))).alloc _).alloc _
 have hM0 : (((w.alloc (.cells #[vI vU (wd X 0),vI vU (wd X 1),vI vU (wd X 2),vI vU (wd X 3)] 26)).alloc (.cells #[vI vU (wd M 0),vI vU (wd M 1),vI vU (wd M 2),vI vU (wd M 3)] 26)).alloc (.cells #[vI vU 0,vI vU 0,vI vU 0,vI vU 0] 26)).rowIs (w.heap.size + 1) 26 4 (fun j => .int .u64 (wd M j)):=(zag (n:=4) (by simp) rfl (arr4 fun j => .int .u64 (wd M j))).alloc _
 have hR0 : (((w.alloc (.cells #[vI vU (wd X 0),vI vU (wd X 1),vI vU (wd X 2),vI vU (wd X 3)] 26)).alloc (.cells #[vI vU (wd M 0),vI vU (wd M 1),vI vU (wd M 2),vI vU (wd M 3)] 26)).alloc (.cells #[vI vU 0,vI vU 0,vI vU 0,vI vU 0] 26)).rowIs (w.heap.size + 1 + 1) 26 4 (fun _ => .int .u64 0):=zag (n:=4) (by simp) rfl (arr4 fun _ => .int .u64 0)
 have hb0 : Below w.heap.size w (((w.alloc (.cells #[vI vU (wd X 0),vI vU (wd X 1),vI vU (wd X 2),vI vU (wd X 3)] 26)).alloc (.cells #[vI vU (wd M 0),vI vU (wd M 1),vI vU (wd M 2),vI vU (wd M 3)] 26)).alloc (.cells #[vI vU 0,vI vU 0,vI vU 0,vI vU 0] 26)):=(((Below.refl _ _).alloc (by simp) _).alloc (by simp) _).alloc (by simp; omega) _
 go_enter Tryz.func76,Tryz.ntmps76
 obtain ⟨a0,a1,a2,a3⟩:=zac hA0
 obtain ⟨c0,c1,c2,c3⟩:=zac hM0
 go_wp2_with fail
 refine (zir X M S true HS.out HU.out hX hM _).mono ?_
 rintro e w1 ⟨rfl,hb1⟩
 clear a0 a1 a2 a3 c0 c1 c2 c3 hp hp0
 replace hA0:=zab hA0 hb1 hA0.lt
 replace hR0:=zab hR0 hb1 hR0.lt
 replace hb0:=hb0.trans (hb1.mono hb0.size)
 clear hb1 hM0
 obtain ⟨a0,a1,a2,a3⟩:=zac hA0
 obtain ⟨f0,f1,f2,f3⟩:=zah hA0
 go_wp2_with fail
 replace hR0:=zai hR0 (b':=w.heap.size) (by omega) (.int .u64 (wd S 0)) (.int .u64 (wd S 1)) (.int .u64 (wd S 2)) (.int .u64 (wd S 3))
 replace hb0:=zaj (b:=w.heap.size) hb0 (by omega) (.int .u64 (wd S 0)) (.int .u64 (wd S 1)) (.int .u64 (wd S 2)) (.int .u64 (wd S 3))
 replace hA0:=put4 hA0 (fun j => .int .u64 (wd S j))
 clear a0 a1 a2 a3 f0 f1 f2 f3
 generalize ((((w1.setCell ⟨w.heap.size,0,none⟩ (.int .u64 (wd S 0))).setCell ⟨w.heap.size,1,none⟩ (.int .u64 (wd S 1))).setCell ⟨w.heap.size,2,none⟩ (.int .u64 (wd S 2))).setCell ⟨w.heap.size,3,none⟩ (.int .u64 (wd S 3))) = w0 at *
 go_loopw [6] (fun i wr => ∃ k : Nat,k ≤ 4 ∧ i = .int .i64 (k : Int) ∧ wr.rowIs w.heap.size 26 4 (fun j => .int .u64 (if j < k then wd (S / 2) j else wd S j)) ∧ wr.rowIs (w.heap.size + 1 + 1) 26 4 (fun _ => .int .u64 0) ∧ Below w.heap.size w wr)
  (fun i _ => 4 - (intOf i).toNat)
 case atStart => exact ⟨0,by omega,rfl,hA0.congr (fun j _ => by simp),hR0,hb0⟩
 case round =>
  obtain ⟨k,hk,rfl,hA,hR,hbel⟩:=hrel
  clear hA0 hR0 hb0
  by_cases hlt : k < 4
  ·
   have c1:=hA.cell hlt
   rw [if_neg (by omega)] at c1
   have f1:=hA.frozen k
   have l1:=wd_lo S k
   have u1:=wd_le S k
   by_cases h3 : k < 3
   ·
    have c2:=hA.cell (show k + 1 < 4 by omega)
    rw [if_neg (by omega)] at c2
    have h3i : (k : Int) < 3:=by omega
    have l2:=wd_lo S (k + 1)
    by_cases hb : wd S (k + 1) % 2 = 1
    ·
     have HC:=veil (zfz S k hb)
     go_wp2
     go_roundw
     case rel =>
      rw [HC.out]
      exact ⟨k + 1,by omega,by go_num,((hA.set k _).set k _).congr (zjt hlt),zax (zax hR (by omega) _) (by omega) _,zat (zat hbel (by omega) _) (by omega) _⟩
     case measure => simp [intOf]; omega
    ·
     have hb0 : wd S (k + 1) % 2 = 0:=by omega
     have HC:=veil (zea S k hb0)
     clear hb
     go_wp2
     go_roundw
     case rel =>
      rw [HC.out]
      exact ⟨k + 1,by omega,by go_num,(hA.set k _).congr (zep hlt),zax hR (by omega) _,zat hbel (by omega) _⟩
     case measure => simp [intOf]; omega
   ·
    obtain rfl : k = 3:=by omega
    have HC:=veil (zfy S hVt)
    go_wp2
    go_roundw
    case rel =>
     rw [HC.out]
     exact ⟨4,by omega,by go_num,(hA.set 3 _).congr (zep (by omega)),zax hR (by omega) _,zat hbel (by omega) _⟩
    case measure => simp [intOf]
  ·
   obtain rfl : k = 4:=by omega
   have hA:=hA.congr (g:=fun j => .int .u64 (wd (S / 2) j)) (fun j hj => by rw [if_pos hj])
   obtain ⟨a0,a1,a2,a3⟩:=zac hA
   obtain ⟨d0,d1,d2,d3⟩:=zac hR
   obtain ⟨f0,f1,f2,f3⟩:=zah hR
   have g3:=hA.frozen 3
   have l3:=wd_lo (S / 2) 3
   obtain ⟨hD,hD3,hD4⟩:=hD
   have HD:=veil hD
   have HD3:=veil hD3
   clear hD hD3
   go_upto_region 11 with (fail)
   clear d0 d1 d2 d3 f0 f1 f2 f3
   go_upto_region 12 with (fail)
   rw [HD3.out]
   replace hR:=zax hR (b':=w.heap.size) (i:=3) (by omega) (.int .u64 (wd D 3))
   replace hbel:=zat hbel (b:=w.heap.size) (i:=3) (by omega) (.int .u64 (wd D 3))
   replace hA:=(hA.set 3 (.int .u64 (wd D 3))).congr (g:=fun j => .int .u64 (wd D j)) (fun j hj => by
    by_cases e : j = 3
    ·
     subst e; simp
    ·
     rw [if_neg e,HD.out j (by omega)])
   clear a0 a1 a2 a3 g3
   generalize wr.setCell ⟨w.heap.size,3,none⟩ (.int .u64 (wd D 3)) = wz at *
   obtain ⟨a0,a1,a2,a3⟩:=zac hA
   obtain ⟨d0,d1,d2,d3⟩:=zac hR
   obtain ⟨f0,f1,f2,f3⟩:=zah hR
   go_wp2
   refine bodyPost_ret (results_cell_row rfl _ _ (w.heap.size + 1 + 1) 26 #[vI vU (wd D 0),vI vU (wd D 1),vI vU (wd D 2),vI vU (wd D 3)] (0,0) _ rfl (blk4 (put4 hR fun j => .int .u64 (wd D j))) Tryz.underlying26 rfl (by kernel_rfl)) rfl ⟨rfl,zaj hbel (by omega) _ _ _ _⟩
def hf (X M : Nat) : Nat:=if X % 2 = 0 then X / 2 else (X + M) / 2
theorem hf_lt {X M : Nat} (h : X < M) : hf X M < M:=by unfold hf; split <;> omega
theorem ghalf_calls (X M : Nat) (hX : X < M) (hM : M < top) (w : World) :
  Calls Tryz.prog 76 #[.agg #[vI vU (wd X 0),vI vU (wd X 1),vI vU (wd X 2),vI vU (wd X 3)],.agg #[vI vU (wd M 0),vI vU (wd M 1),vI vU (wd M 2),vI vU (wd M 3)]] w fun e w' => e = .returned (.agg #[vI vU (wd (hf X M) 0),vI vU (wd (hf X M) 1),vI vU (wd (hf X M) 2),vI vU (wd (hf X M) 3)]) ∧ Below w.heap.size w w':=by
 unfold hf
 by_cases h : X % 2 = 0
 ·
  rw [if_pos h]; exact ghalf_even X M (by omega) h w
 ·
  rw [if_neg h]
  by_cases h2 : top ≤ X + M
  ·
   have e : (X + M) % top = X + M - top:=by rw [Nat.mod_eq_sub_mod h2,Nat.mod_eq_of_lt (by omega)]
   have hd:=halfTop (S:=X + M - top) (by omega)
   rw [show X + M - top + top = X + M by omega] at hd
   exact ghalf_over X M _ _ hd (by omega) hM (by omega) e (by simpa using h2) w
  ·
   have e : (X + M) % top = X + M:=Nat.mod_eq_of_lt (by omega)
   exact ghalf_no X M _ (by omega) hM (by omega) e (by simpa using h2) w
theorem gcd_even (u v : Nat) (hu : u % 2 = 0) (hv : v % 2 = 1) : Nat.gcd (u / 2) v = Nat.gcd u v:=by
 have hc : Nat.Coprime 2 v:=by
  unfold Nat.Coprime
  rw [Nat.gcd_rec,hv]; rfl
 have e : u = 2 * (u / 2):=by omega
 conv => rhs; rw [e]
 exact (Nat.Coprime.gcd_mul_left_cancel (u / 2) hc).symm
theorem gcd_less (u v : Nat) (h : u ≤ v) : Nat.gcd (v - u) u = Nat.gcd u v:=by
 rw [Nat.gcd_comm u v]
 have e : v = (v - u) + u:=by omega
 conv => rhs; rw [e,Nat.gcd_add_self_left]
theorem cut_twice {M A B : Nat} (hM : M % 2 = 1) (h : 2 * A % M = 2 * B % M) : A % M = B % M:=by
 have hM0 : 0 < M:=by omega
 rw [Nat.mul_mod,← Nat.mul_mod_mod,Nat.mod_mul_mod] at h
 rw [Nat.mul_mod 2 B,← Nat.mul_mod_mod,Nat.mod_mul_mod] at h
 have ha:=Nat.mod_lt A hM0
 have hb:=Nat.mod_lt B hM0
 simp only [Nat.mod_mod] at h
 generalize A % M = a at *
 generalize B % M = b at *
 have e : ∀ c,c < M → 2 * c % M = if 2 * c < M then 2 * c else 2 * c - M:=by
  intro c hc
  split
  ·
   exact Nat.mod_eq_of_lt (by assumption)
  ·
   rw [Nat.mod_eq_sub_mod (by omega),Nat.mod_eq_of_lt (by omega)]
 rw [e a ha,e b hb] at h
 split at h <;> split at h <;> omega
theorem cut_add {M A B C : Nat} (hM0 : 0 < M) (h : (A + C) % M = (B + C) % M) : A % M = B % M:=by
 rw [Nat.add_mod,Nat.add_mod B] at h
 have ha:=Nat.mod_lt A hM0
 have hb:=Nat.mod_lt B hM0
 have hc:=Nat.mod_lt C hM0
 generalize A % M = a at *
 generalize B % M = b at *
 generalize C % M = c at *
 have e : ∀ d,d < M → (d + c) % M = if d + c < M then d + c else d + c - M:=by
  intro d hd
  split
  ·
   exact Nat.mod_eq_of_lt (by assumption)
  ·
   rw [Nat.mod_eq_sub_mod (by omega),Nat.mod_eq_of_lt (by omega)]
 rw [e a ha,e b hb] at h
 split at h <;> split at h <;> omega
structure Inv (a M r u v x y : Nat) : Prop where
 hx : x < M
 hy : y < M
 hu : u < top
 hv : v < top
 odd : v % 2 = 1
 ex : a * x % M = u % M
 ey : a * y % M = v % M
 g : Nat.gcd u v = Nat.gcd a M
 left : ∃ p q,u < 2 ^ p ∧ v < 2 ^ q ∧ r + 2 * (p + q) + u % 2 ≤ 1025
theorem inv_start {a M : Nat} (ha : a < M) (hM : M < top) (hM1 : 1 < M) (hodd : M % 2 = 1) : Inv a M 0 a M 1 0 :=
 ⟨hM1,by omega,by omega,hM,hodd,by rw [Nat.mul_one],by rw [Nat.mul_zero,Nat.zero_mod,Nat.mod_self],rfl,256,256,by show a < top; omega,hM,by omega⟩
theorem inv_even {a M r u v x y : Nat} (h : Inv a M r u v x y) (hodd : M % 2 = 1) (hu : u % 2 = 0) (h0 : u ≠ 0) : Inv a M (r + 1) (u / 2) v (hf x M) y:=by
 obtain ⟨hx,hy,hut,hvt,odd,ex,ey,g,p,q,hp,hq,hl⟩:=h
 refine ⟨hf_lt hx,hy,by omega,hvt,odd,?_,ey,by rw [gcd_even u v hu odd]; exact g,p - 1,q,?_,hq,?_⟩
 ·
  apply cut_twice hodd
  rw [show 2 * (u / 2) = u by omega,← ex]
  unfold hf
  split
  ·
   rw [Nat.mul_left_comm,show 2 * (x / 2) = x by omega]
  ·
   rw [Nat.mul_left_comm,show 2 * ((x + M) / 2) = x + M by omega,Nat.mul_add,Nat.add_mul_mod_self_right]
 ·
  cases p with
  | zero => simp at hp; omega
  | succ p => rw [Nat.pow_succ] at hp; simp only [Nat.add_sub_cancel]; omega
 ·
  cases p with
  | zero => simp at hp; omega
  | succ p => simp only [Nat.add_sub_cancel]; omega
theorem inv_more {a M r u v x y : Nat} (h : Inv a M r u v x y) (hu : u % 2 = 1) (hle : v ≤ u) : Inv a M (r + 1) (u - v) v ((x + M - y) % M) y:=by
 obtain ⟨hx,hy,hut,hvt,odd,ex,ey,g,p,q,hp,hq,hl⟩:=h
 have hM0 : 0 < M:=by omega
 refine ⟨Nat.mod_lt _ hM0,hy,by omega,hvt,odd,?_,ey,by rw [gcd_less v u hle,Nat.gcd_comm]; exact g,p,q,by omega,hq,by omega⟩
 apply cut_add (C:=v) hM0
 rw [Nat.sub_add_cancel hle,← ex,Nat.add_mod,← ey,← Nat.add_mod,Nat.add_mod,Nat.mul_mod,Nat.mod_mod,← Nat.mul_mod,← Nat.add_mod,← Nat.mul_add,show x + M - y + y = x + M by omega,Nat.mul_add,Nat.add_mul_mod_self_right]
theorem inv_less {a M r u v x y : Nat} (h : Inv a M r u v x y) (hu : u % 2 = 1) (hlt : u < v) : Inv a M (r + 1) (v - u) u ((y + M - x) % M) x:=by
 obtain ⟨hx,hy,hut,hvt,odd,ex,ey,g,p,q,hp,hq,hl⟩:=h
 have h2 : Inv a M r v u y x:=⟨hy,hx,hvt,hut,hu,ey,ex,by rw [Nat.gcd_comm]; exact g,q,p,hq,hp,by omega⟩
 exact inv_more h2 odd (by omega)
structure Fr (w wr : World) (M : Nat) (fu : Nat → Value) (v x y : Nat) : Prop where
 mr : wr.rowIs (w.heap.size + 1) 26 4 (fun j => .int .u64 (wd M j))
 rr : wr.rowIs (w.heap.size + 1 + 1) 26 4 (fun _ => .int .u64 0)
 ur : wr.rowIs (w.heap.size + 1 + 1 + 1) 26 4 fu
 vr : wr.rowIs (w.heap.size + 1 + 1 + 1 + 1) 26 4 (fun j => .int .u64 (wd v j))
 xr : wr.rowIs (w.heap.size + 1 + 1 + 1 + 1 + 1) 26 4 (fun j => .int .u64 (wd x j))
 yr : wr.rowIs (w.heap.size + 1 + 1 + 1 + 1 + 1 + 1) 26 4 (fun j => .int .u64 (wd y j))
 zr : wr.rowIs (w.heap.size + 1 + 1 + 1 + 1 + 1 + 1 + 1) 26 4 (fun _ => .int .u64 0)
 b : Below w.heap.size w wr
theorem Fr.call {w wr : World} {M : Nat} {fu : Nat → Value} {v x y : Nat} {w' : World} (h : Fr w wr M fu v x y) (hb : Below wr.heap.size wr w') : Fr w w' M fu v x y :=
 ⟨zab h.mr hb h.mr.lt,zab h.rr hb h.rr.lt,zab h.ur hb h.ur.lt,zab h.vr hb h.vr.lt,zab h.xr hb h.xr.lt,zab h.yr hb h.yr.lt,zab h.zr hb h.zr.lt,h.b.trans (hb.mono h.b.size)⟩
theorem Fr.alloc {w wr : World} {M : Nat} {fu : Nat → Value} {v x y : Nat} (h : Fr w wr M fu v x y) (o : Obj) : Fr w (wr.alloc o) M fu v x y :=
 ⟨h.mr.alloc o,h.rr.alloc o,h.ur.alloc o,h.vr.alloc o,h.xr.alloc o,h.yr.alloc o,h.zr.alloc o,h.b.alloc h.b.size o⟩
theorem Fr.putU {w wr : World} {M : Nat} {fu : Nat → Value} {v x y : Nat} (h : Fr w wr M fu v x y) (k : Nat) : Fr w ((((wr.setCell ⟨w.heap.size + 1 + 1 + 1,0,none⟩ (.int .u64 (wd k 0))).setCell ⟨w.heap.size + 1 + 1 + 1,1,none⟩ (.int .u64 (wd k 1))).setCell ⟨w.heap.size + 1 + 1 + 1,2,none⟩ (.int .u64 (wd k 2))).setCell ⟨w.heap.size + 1 + 1 + 1,3,none⟩ (.int .u64 (wd k 3))) M (fun j => .int .u64 (wd k j)) v x y :=
 ⟨zai h.mr (by omega) _ _ _ _,zai h.rr (by omega) _ _ _ _,put4 h.ur (fun j => .int .u64 (wd k j)),zai h.vr (by omega) _ _ _ _,zai h.xr (by omega) _ _ _ _,zai h.yr (by omega) _ _ _ _,zai h.zr (by omega) _ _ _ _,zaj h.b (by omega) _ _ _ _⟩
theorem Fr.putV {w wr : World} {M : Nat} {fu : Nat → Value} {v x y : Nat} (h : Fr w wr M fu v x y) (k : Nat) : Fr w ((((wr.setCell ⟨w.heap.size + 1 + 1 + 1 + 1,0,none⟩ (.int .u64 (wd k 0))).setCell ⟨w.heap.size + 1 + 1 + 1 + 1,1,none⟩ (.int .u64 (wd k 1))).setCell ⟨w.heap.size + 1 + 1 + 1 + 1,2,none⟩ (.int .u64 (wd k 2))).setCell ⟨w.heap.size + 1 + 1 + 1 + 1,3,none⟩ (.int .u64 (wd k 3))) M fu k x y :=
 ⟨zai h.mr (by omega) _ _ _ _,zai h.rr (by omega) _ _ _ _,zai h.ur (by omega) _ _ _ _,put4 h.vr (fun j => .int .u64 (wd k j)),zai h.xr (by omega) _ _ _ _,zai h.yr (by omega) _ _ _ _,zai h.zr (by omega) _ _ _ _,zaj h.b (by omega) _ _ _ _⟩
theorem Fr.putX {w wr : World} {M : Nat} {fu : Nat → Value} {v x y : Nat} (h : Fr w wr M fu v x y) (k : Nat) : Fr w ((((wr.setCell ⟨w.heap.size + 1 + 1 + 1 + 1 + 1,0,none⟩ (.int .u64 (wd k 0))).setCell ⟨w.heap.size + 1 + 1 + 1 + 1 + 1,1,none⟩ (.int .u64 (wd k 1))).setCell ⟨w.heap.size + 1 + 1 + 1 + 1 + 1,2,none⟩ (.int .u64 (wd k 2))).setCell ⟨w.heap.size + 1 + 1 + 1 + 1 + 1,3,none⟩ (.int .u64 (wd k 3))) M fu v k y :=
 ⟨zai h.mr (by omega) _ _ _ _,zai h.rr (by omega) _ _ _ _,zai h.ur (by omega) _ _ _ _,zai h.vr (by omega) _ _ _ _,put4 h.xr (fun j => .int .u64 (wd k j)),zai h.yr (by omega) _ _ _ _,zai h.zr (by omega) _ _ _ _,zaj h.b (by omega) _ _ _ _⟩
theorem Fr.putY {w wr : World} {M : Nat} {fu : Nat → Value} {v x y : Nat} (h : Fr w wr M fu v x y) (k : Nat) : Fr w ((((wr.setCell ⟨w.heap.size + 1 + 1 + 1 + 1 + 1 + 1,0,none⟩ (.int .u64 (wd k 0))).setCell ⟨w.heap.size + 1 + 1 + 1 + 1 + 1 + 1,1,none⟩ (.int .u64 (wd k 1))).setCell ⟨w.heap.size + 1 + 1 + 1 + 1 + 1 + 1,2,none⟩ (.int .u64 (wd k 2))).setCell ⟨w.heap.size + 1 + 1 + 1 + 1 + 1 + 1,3,none⟩ (.int .u64 (wd k 3))) M fu v x k :=
 ⟨zai h.mr (by omega) _ _ _ _,zai h.rr (by omega) _ _ _ _,zai h.ur (by omega) _ _ _ _,zai h.vr (by omega) _ _ _ _,zai h.xr (by omega) _ _ _ _,put4 h.yr (fun j => .int .u64 (wd k j)),zai h.zr (by omega) _ _ _ _,zaj h.b (by omega) _ _ _ _⟩
theorem Fr.putT {w wr : World} {M : Nat} {fu : Nat → Value} {v x y : Nat} {g : Nat} (h : Fr w wr M fu v x y) (hg : w.heap.size + 1 + 1 + 1 + 1 + 1 + 1 + 1 < g) (k : Nat) : Fr w ((((wr.setCell ⟨g,0,none⟩ (.int .u64 (wd k 0))).setCell ⟨g,1,none⟩ (.int .u64 (wd k 1))).setCell ⟨g,2,none⟩ (.int .u64 (wd k 2))).setCell ⟨g,3,none⟩ (.int .u64 (wd k 3))) M fu v x y :=
 ⟨zai h.mr (by omega) _ _ _ _,zai h.rr (by omega) _ _ _ _,zai h.ur (by omega) _ _ _ _,zai h.vr (by omega) _ _ _ _,zai h.xr (by omega) _ _ _ _,zai h.yr (by omega) _ _ _ _,zai h.zr (by omega) _ _ _ _,zaj h.b (by omega) _ _ _ _⟩
theorem Fr.setU {w wr : World} {M : Nat} {fu : Nat → Value} {v x y : Nat} (h : Fr w wr M fu v x y) (i : Nat) (k : Value) : Fr w (wr.setCell ⟨w.heap.size + 1 + 1 + 1,i,none⟩ k) M (fun j => if j = i then k else fu j) v x y :=
 ⟨zax h.mr (by omega) _,zax h.rr (by omega) _,h.ur.set i k,zax h.vr (by omega) _,zax h.xr (by omega) _,zax h.yr (by omega) _,zax h.zr (by omega) _,zat h.b (by omega) _⟩
theorem Fr.congrU {w wr : World} {M : Nat} {fu : Nat → Value} {v x y : Nat} {gu : Nat → Value} (h : Fr w wr M fu v x y) (e : ∀ j,j < 4 → fu j = gu j) : Fr w wr M gu v x y:=⟨h.mr,h.rr,h.ur.congr e,h.vr,h.xr,h.yr,h.zr,h.b⟩
theorem neq4 (f g : Nat → Int) (w : World) : (binOp .neq 26 (.agg #[vI vU (f 0),vI vU (f 1),vI vU (f 2),vI vU (f 3)]) (.agg #[vI vU (g 0),vI vU (g 1),vI vU (g 2),vI vU (g 3)])).run Tryz.prog w = .ok (.bool (!((List.range 4).all fun i => f i == g i))) w:=by
 obtain ⟨i,hi⟩ : ∃ i,Tryz.prog.info? 24 = some i:=Option.isSome_iff_exists.1 (by kernel_rfl)
 have hc : Tryz.prog.cellsOf 24 = 1:=by kernel_rfl
 rw [run_neq_struct,run_equalIn_array (P:=Tryz.prog) w 9999 _ _ Tryz.underlying26 hi,hc]
 rw [run_items 9998 _ _ f g w _ (fun j hj => arr4 (fun j => .int .u64 (f j)) j (by simpa using hj)) (fun j hj => arr4 (fun j => .int .u64 (g j)) j (by simpa using hj))]
 rfl
theorem neq_zero {X : Nat} (hX : X < top) (w : World) : (binOp .neq 26 (.agg #[vI vU (wd X 0),vI vU (wd X 1),vI vU (wd X 2),vI vU (wd X 3)]) (.agg #[vI vU 0,vI vU 0,vI vU 0,vI vU 0])).run Tryz.prog w = .ok (.bool (!decide (X = 0))) w:=by
 have h:=neq4 (wd X) (wd 0) w
 rw [all_wd 4 X 0] at h
 have e : (X % w64 ^ 4 = 0 % w64 ^ 4) = (X = 0):=by rw [Nat.mod_eq_of_lt (show X < w64 ^ 4 from hX),Nat.zero_mod]
 rw [decide_eq_decide.2 (iff_of_eq e)] at h
 have e0 : ∀ i,wd 0 i = 0:=by intro i; unfold wd dg; simp
 simpa [e0] using h
theorem eql_one {X : Nat} (hX : X < top) (w : World) : (binOp .eql 26 (.agg #[vI vU (wd X 0),vI vU (wd X 1),vI vU (wd X 2),vI vU (wd X 3)]) (.agg #[vI vU 1,vI vU 0,vI vU 0,vI vU 0])).run Tryz.prog w = .ok (.bool (decide (X = 1))) w:=by
 have h:=zkb hX (show 1 < top by decide) w
 have o0 : wd 1 0 = 1:=by decide
 have o1 : wd 1 1 = 0:=by decide
 have o2 : wd 1 2 = 0:=by decide
 have o3 : wd 1 3 = 0:=by decide
 rw [o0,o1,o2,o3] at h
 exact h
theorem zjh (X M : Nat) (hX : X < M) (hM1 : 1 < M) (hodd : M % 2 = 1) (hM : M < top) (w : World) :
  Calls Tryz.prog 36 #[.agg #[vI vU (wd X 0),vI vU (wd X 1),vI vU (wd X 2),vI vU (wd X 3)],.agg #[vI vU (wd M 0),vI vU (wd M 1),vI vU (wd M 2),vI vU (wd M 3)]] w fun e w' => ∃ y,y < M ∧ (Nat.gcd X M = 1 → X * y % M = 1) ∧ e = .returned (.tuple #[.agg #[vI vU (wd y 0),vI vU (wd y 1),vI vU (wd y 2),vI vU (wd y 3)],.bool (Nat.gcd X M == 1)]) ∧ Below w.heap.size w w':=by
 have hF0 : Fr w ((((((((w.alloc (.cells #[vI vU (wd X 0),vI vU (wd X 1),vI vU (wd X 2),vI vU (wd X 3)] 26)).alloc (.cells #[vI vU (wd M 0),vI vU (wd M 1),vI vU (wd M 2),vI vU (wd M 3)] 26)).alloc (.cells #[vI vU 0,vI vU 0,vI vU 0,vI vU 0] 26)).alloc (.cells #[vI vU (wd X 0),vI vU (wd X 1),vI vU (wd X 2),vI vU (wd X 3)] 26)).alloc (.cells #[vI vU (wd M 0),vI vU (wd M 1),vI vU (wd M 2),vI vU (wd M 3)] 26)).alloc (.cells #[vI vU 1,vI vU 0,vI vU 0,vI vU 0] 26)).alloc (.cells #[vI vU 0,vI vU 0,vI vU 0,vI vU 0] 26)).alloc (.cells #[vI vU 0,vI vU 0,vI vU 0,vI vU 0] 26)) M (fun j => .int .u64 (wd X j)) M 1 0:=⟨(((((((zag (n:=4) (f:=(fun j => .int .u64 (wd M j))) (by simp) rfl (fun i hi => by match i,hi with | 0,_ => rfl | 1,_ => rfl | 2,_ => rfl | 3,_ => rfl)).alloc _).alloc _).alloc _).alloc _).alloc _).alloc _),
  ((((((zag (n:=4) (f:=(fun _ => .int .u64 0)) (by simp) rfl (fun i hi => by match i,hi with | 0,_ => rfl | 1,_ => rfl | 2,_ => rfl | 3,_ => rfl)).alloc _).alloc _).alloc _).alloc _).alloc _),
  (((((zag (n:=4) (f:=(fun j => .int .u64 (wd X j))) (by simp) rfl (fun i hi => by match i,hi with | 0,_ => rfl | 1,_ => rfl | 2,_ => rfl | 3,_ => rfl)).alloc _).alloc _).alloc _).alloc _),
  ((((zag (n:=4) (f:=(fun j => .int .u64 (wd M j))) (by simp) rfl (fun i hi => by match i,hi with | 0,_ => rfl | 1,_ => rfl | 2,_ => rfl | 3,_ => rfl)).alloc _).alloc _).alloc _),
  (((zag (n:=4) (f:=(fun j => .int .u64 (wd 1 j))) (by simp) rfl (fun i hi => by match i,hi with | 0,_ => rfl | 1,_ => rfl | 2,_ => rfl | 3,_ => rfl)).alloc _).alloc _),
  ((zag (n:=4) (f:=(fun j => .int .u64 (wd 0 j))) (by simp) rfl (fun i hi => by match i,hi with | 0,_ => rfl | 1,_ => rfl | 2,_ => rfl | 3,_ => rfl)).alloc _),
  (zag (n:=4) (f:=(fun _ => .int .u64 0)) (by simp) rfl (fun i hi => by match i,hi with | 0,_ => rfl | 1,_ => rfl | 2,_ => rfl | 3,_ => rfl)),
  (((((((((Below.refl _ _).alloc (by simp) _).alloc (by simp) _).alloc (by simp; omega) _).alloc (by simp; omega) _).alloc (by simp; omega) _).alloc (by simp; omega) _).alloc (by simp; omega) _).alloc (by simp; omega) _)⟩
 have hI0:=inv_start hX hM hM1 hodd
 have HM:=veil (And.intro hM1 hodd)
 clear hX hM1 hodd
 go_enter Tryz.func36,Tryz.ntmps36
 go_wp2_with fail
 generalize ((((((((w.alloc (.cells #[vI vU (wd X 0),vI vU (wd X 1),vI vU (wd X 2),vI vU (wd X 3)] 26)).alloc (.cells #[vI vU (wd M 0),vI vU (wd M 1),vI vU (wd M 2),vI vU (wd M 3)] 26)).alloc (.cells #[vI vU 0,vI vU 0,vI vU 0,vI vU 0] 26)).alloc (.cells #[vI vU (wd X 0),vI vU (wd X 1),vI vU (wd X 2),vI vU (wd X 3)] 26)).alloc (.cells #[vI vU (wd M 0),vI vU (wd M 1),vI vU (wd M 2),vI vU (wd M 3)] 26)).alloc (.cells #[vI vU 1,vI vU 0,vI vU 0,vI vU 0] 26)).alloc (.cells #[vI vU 0,vI vU 0,vI vU 0,vI vU 0] 26)).alloc (.cells #[vI vU 0,vI vU 0,vI vU 0,vI vU 0] 26)) = w0 at *
 go_loopw [11] (fun i wr => ∃ r u v x y : Nat,i = .int .i64 (r : Int) ∧ Inv X M r u v x y ∧ Fr w wr M (fun j => .int .u64 (wd u j)) v x y)
  (fun i _ => 1100 - (intOf i).toNat)
 case atStart => exact ⟨0,X,M,1,0,rfl,hI0,hF0⟩
 case round =>
  obtain ⟨r,u,v,x,y,rfl,hI,hF⟩:=hrel
  clear hF0 hI0
  have hr : (r : Int) < 1100:=by obtain ⟨p,q,_,_,h⟩:=hI.left; omega
  obtain ⟨u0,u1,u2,u3⟩:=zac hF.ur
  obtain ⟨z0,z1,z2,z3⟩:=zac hF.zr
  have kz:=fun W => neq_zero hI.hu W
  by_cases hu0 : u = 0
  ·
   rw [show decide (u = 0) = true by simpa using hu0] at kz
   have HU:=veil hu0
   clear hu0
   have hgv : Nat.gcd X M = v:=by rw [← hI.g,HU.out,Nat.gcd_zero_left]
   obtain ⟨bb,hbb⟩ : ∃ bb,bb = decide (v = 1):=⟨_,rfl⟩
   have k1:=fun W => eql_one hI.hv W
   rw [← hbb] at k1
   have HB:=veil hbb
   have HG:=veil hgv
   clear hbb hgv
   go_wp2_with fail
   obtain ⟨y0,y1,y2,y3⟩:=zac hF.yr
   obtain ⟨v0,v1,v2,v3⟩:=zac hF.vr
   obtain ⟨r0,r1,r2,r3⟩:=zac hF.rr
   obtain ⟨f0,f1,f2,f3⟩:=zah hF.rr
   go_region_held3 (fun w' => w'.cell? ⟨w.heap.size + 1 + 1 + 1 + 1 + 1 + 1,0,none⟩ = some (vI vU (wd y 0)) ∧ w'.cell? ⟨w.heap.size + 1 + 1 + 1 + 1 + 1 + 1,1,none⟩ = some (vI vU (wd y 1)) ∧ w'.cell? ⟨w.heap.size + 1 + 1 + 1 + 1 + 1 + 1,2,none⟩ = some (vI vU (wd y 2)) ∧ w'.cell? ⟨w.heap.size + 1 + 1 + 1 + 1 + 1 + 1,3,none⟩ = some (vI vU (wd y 3)) ∧ w'.cell? ⟨w.heap.size + 1 + 1 + 1 + 1,0,none⟩ = some (vI vU (wd v 0)) ∧ w'.cell? ⟨w.heap.size + 1 + 1 + 1 + 1,1,none⟩ = some (vI vU (wd v 1)) ∧ w'.cell? ⟨w.heap.size + 1 + 1 + 1 + 1,2,none⟩ = some (vI vU (wd v 2)) ∧ w'.cell? ⟨w.heap.size + 1 + 1 + 1 + 1,3,none⟩ = some (vI vU (wd v 3)))
    (go_keep)
    (fail)
   go_wp2
   refine bodyPost_ret (zbz rfl _ _ (w.heap.size + 1 + 1) 26 #[vI vU (wd y 0),vI vU (wd y 1),vI vU (wd y 2),vI vU (wd y 3)] (0,0) 4 24 rfl (blk4 (put4 hF.rr fun j => .int .u64 (wd y j)).drew) Tryz.underlying26 (by kernel_rfl)) rfl ⟨y,hI.hy,?_,?_,(zaj hF.b (by omega) _ _ _ _).drew⟩
   ·
    intro hg
    rw [hI.ey,← HG.out,hg,Nat.mod_eq_of_lt HM.out.1]
   ·
    show Ending.returned (.tuple #[.agg #[vI vU (wd y 0),vI vU (wd y 1),vI vU (wd y 2),vI vU (wd y 3)],.bool bb]) = .returned (.tuple #[.agg #[vI vU (wd y 0),vI vU (wd y 1),vI vU (wd y 2),vI vU (wd y 3)],.bool (Nat.gcd X M == 1)])
    rw [HB.out,HG.out]
    rfl
  ·
   rw [show decide (u = 0) = false by simpa using hu0] at kz
   have HU:=veil hu0
   clear hu0
   have hp0:=wd_lo u 0
   by_cases hpar : u % 2 = 0
   ·
    have hp : wd u 0 % 2 = 0:=by rw [wd_par,hpar]; rfl
    have HP:=veil hpar
    clear hpar
    obtain ⟨K,hK⟩ : ∃ K,K = hf x M:=⟨_,rfl⟩
    have h1:=fun W => ghalf_calls x M hI.hx hM W
    rw [← hK] at h1
    have H1:=veil h1
    have HK:=veil hK
    clear h1 hK
    clear u0 u1 u2 u3
    obtain ⟨u0,u1,u2,u3⟩:=zac hF.ur
    obtain ⟨v0,v1,v2,v3⟩:=zac hF.vr
    obtain ⟨x0,x1,x2,x3⟩:=zac hF.xr
    obtain ⟨y0,y1,y2,y3⟩:=zac hF.yr
    obtain ⟨m0,m1,m2,m3⟩:=zac hF.mr
    obtain ⟨fu0,fu1,fu2,fu3⟩:=zah hF.ur
    obtain ⟨fv0,fv1,fv2,fv3⟩:=zah hF.vr
    obtain ⟨fx0,fx1,fx2,fx3⟩:=zah hF.xr
    obtain ⟨fy0,fy1,fy2,fy3⟩:=zah hF.yr
    go_wp2_with fail
    refine (H1.out _).mono ?_
    rintro e w1 ⟨rfl,hb1⟩
    clear u0 u1 u2 u3 v0 v1 v2 v3 x0 x1 x2 x3 y0 y1 y2 y3 m0 m1 m2 m3 fu0 fu1 fu2 fu3 fv0 fv1 fv2 fv3 fx0 fx1 fx2 fx3 fy0 fy1 fy2 fy3
    clear z0 z1 z2 z3
    replace hF:=hF.call hb1
    clear hb1 kz hp hp0
    obtain ⟨u0,u1,u2,u3⟩:=zac hF.ur
    obtain ⟨v0,v1,v2,v3⟩:=zac hF.vr
    obtain ⟨x0,x1,x2,x3⟩:=zac hF.xr
    obtain ⟨y0,y1,y2,y3⟩:=zac hF.yr
    obtain ⟨m0,m1,m2,m3⟩:=zac hF.mr
    obtain ⟨fu0,fu1,fu2,fu3⟩:=zah hF.ur
    obtain ⟨fv0,fv1,fv2,fv3⟩:=zah hF.vr
    obtain ⟨fx0,fx1,fx2,fx3⟩:=zah hF.xr
    obtain ⟨fy0,fy1,fy2,fy3⟩:=zah hF.yr
    go_upto_region 11 with (fail)
    clear u0 u1 u2 u3 v0 v1 v2 v3 x0 x1 x2 x3 y0 y1 y2 y3 m0 m1 m2 m3 fu0 fu1 fu2 fu3 fv0 fv1 fv2 fv3 fx0 fx1 fx2 fx3 fy0 fy1 fy2 fy3
    replace hF:=hF.putX K
    generalize (((w1.setCell ⟨w.heap.size + 1 + 1 + 1 + 1 + 1,0,none⟩ (.int .u64 (wd K 0))).setCell ⟨w.heap.size + 1 + 1 + 1 + 1 + 1,1,none⟩ (.int .u64 (wd K 1))).setCell ⟨w.heap.size + 1 + 1 + 1 + 1 + 1,2,none⟩ (.int .u64 (wd K 2))).setCell ⟨w.heap.size + 1 + 1 + 1 + 1 + 1,3,none⟩ (.int .u64 (wd K 3)) = v1 at *
    go_wp2_with fail
    go_loopw [12] (fun i wr => ∃ k : Nat,k ≤ 4 ∧ i = .int .i64 (k : Int) ∧ Fr w wr M (fun j => .int .u64 (if j < k then wd (u / 2) j else wd u j)) v K y)
     (fun i _ => 4 - (intOf i).toNat)
    case atStart => exact ⟨0,by omega,rfl,hF.congrU (fun j _ => by simp)⟩
    case round =>
     obtain ⟨k,hk,rfl,hF⟩:=hrel
     by_cases hlt : k < 4
     ·
      have c1:=hF.ur.cell hlt
      rw [if_neg (by omega)] at c1
      have f1:=hF.ur.frozen k
      have l1:=wd_lo u k
      have u1:=wd_le u k
      by_cases h3 : k < 3
      ·
       have c2:=hF.ur.cell (show k + 1 < 4 by omega)
       rw [if_neg (by omega)] at c2
       have h3i : (k : Int) < 3:=by omega
       have l2:=wd_lo u (k + 1)
       by_cases hb : wd u (k + 1) % 2 = 1
       ·
        have HC:=veil (zfz u k hb)
        go_wp2
        go_roundw
        case rel =>
         rw [HC.out]
         exact ⟨k + 1,by omega,by go_num,((hF.setU k _).setU k _).congrU (zjt hlt)⟩
        case measure => simp [intOf]; omega
       ·
        have hb0 : wd u (k + 1) % 2 = 0:=by omega
        have HC:=veil (zea u k hb0)
        clear hb
        go_wp2
        go_roundw
        case rel =>
         rw [HC.out]
         exact ⟨k + 1,by omega,by go_num,(hF.setU k _).congrU (zep hlt)⟩
        case measure => simp [intOf]; omega
      ·
       obtain rfl : k = 3:=by omega
       have HC:=veil (zfy u hI.hu)
       go_wp2
       go_roundw
       case rel =>
        rw [HC.out]
        exact ⟨4,by omega,by go_num,(hF.setU 3 _).congrU (zep (by omega))⟩
       case measure => simp [intOf]
     ·
      obtain rfl : k = 4:=by omega
      go_wp2
      go_roundw
      case rel => exact ⟨r + 1,u / 2,v,K,y,by go_num,by rw [HK.out]; exact inv_even hI HM.out.2 HP.out HU.out,hF.congrU (fun j hj => by rw [if_pos hj])⟩
      case measure => simp [intOf]; omega
   ·
    have hp : wd u 0 % 2 = 1:=by rw [wd_par,show u % 2 = 1 by omega]; rfl
    have HP:=veil (show u % 2 = 1 by omega)
    clear hpar
    clear u0 u1 u2 u3
    by_cases hlt : u < v
    ·
     have hD : (v + top - u) % top = v - u:=by
      have:=hI.hu; have:=hI.hv
      rw [show v + top - u = (v - u) + top by omega,Nat.add_mod_right,Nat.mod_eq_of_lt (by omega)]
     obtain ⟨D,hDD⟩ : ∃ D,D = v - u:=⟨_,rfl⟩
     rw [← hDD] at hD
     have H2:=veil (fun W => zgs v u D hD hI.hv hI.hu W)
     obtain ⟨K,hK⟩ : ∃ K,K = (y + M - x) % M:=⟨_,rfl⟩
     have h3:=fun W => zjg y x M hI.hy hI.hx hM W
     rw [← hK] at h3
     have H3:=veil h3
     have H1:=veil (fun W => zge u v true (by simpa using hlt) hI.hu hI.hv W)
     have HN:=veil (inv_less hI HP.out hlt)
     rw [← hDD,← hK] at HN
     clear hD hDD hK h3 hlt
     obtain ⟨u0,u1,u2,u3⟩:=zac hF.ur
     obtain ⟨v0,v1,v2,v3⟩:=zac hF.vr
     obtain ⟨x0,x1,x2,x3⟩:=zac hF.xr
     obtain ⟨y0,y1,y2,y3⟩:=zac hF.yr
     obtain ⟨m0,m1,m2,m3⟩:=zac hF.mr
     obtain ⟨fu0,fu1,fu2,fu3⟩:=zah hF.ur
     obtain ⟨fv0,fv1,fv2,fv3⟩:=zah hF.vr
     obtain ⟨fx0,fx1,fx2,fx3⟩:=zah hF.xr
     obtain ⟨fy0,fy1,fy2,fy3⟩:=zah hF.yr
     go_wp2_with fail
     refine (H1.out _).mono ?_
     rintro e w1 ⟨rfl,hb1⟩
     clear u0 u1 u2 u3 v0 v1 v2 v3 x0 x1 x2 x3 y0 y1 y2 y3 m0 m1 m2 m3 fu0 fu1 fu2 fu3 fv0 fv1 fv2 fv3 fx0 fx1 fx2 fx3 fy0 fy1 fy2 fy3
     clear z0 z1 z2 z3
     replace hF:=hF.call hb1
     clear hb1 kz hp hp0
     obtain ⟨u0,u1,u2,u3⟩:=zac hF.ur
     obtain ⟨v0,v1,v2,v3⟩:=zac hF.vr
     obtain ⟨x0,x1,x2,x3⟩:=zac hF.xr
     obtain ⟨y0,y1,y2,y3⟩:=zac hF.yr
     obtain ⟨m0,m1,m2,m3⟩:=zac hF.mr
     obtain ⟨fu0,fu1,fu2,fu3⟩:=zah hF.ur
     obtain ⟨fv0,fv1,fv2,fv3⟩:=zah hF.vr
     obtain ⟨fx0,fx1,fx2,fx3⟩:=zah hF.xr
     obtain ⟨fy0,fy1,fy2,fy3⟩:=zah hF.yr
     go_upto_region 18 with (fail)
     go_upto_region 19 with (fail)
     clear u0 u1 u2 u3 v0 v1 v2 v3 x0 x1 x2 x3 y0 y1 y2 y3 m0 m1 m2 m3 fu0 fu1 fu2 fu3 fv0 fv1 fv2 fv3 fx0 fx1 fx2 fx3 fy0 fy1 fy2 fy3
     have hg:=hF.zr.lt
     have hT : (w1.alloc (.cells #[vI vU (wd u 0),vI vU (wd u 1),vI vU (wd u 2),vI vU (wd u 3)] 26)).rowIs w1.heap.size 26 4 (fun j => .int .u64 (wd u j)):=zag (n:=4) rfl rfl (arr4 fun j => .int .u64 (wd u j))
     replace hF:=hF.alloc (.cells #[vI vU (wd u 0),vI vU (wd u 1),vI vU (wd u 2),vI vU (wd u 3)] 26)
     generalize w1.heap.size = g at *
     generalize w1.alloc (.cells #[vI vU (wd u 0),vI vU (wd u 1),vI vU (wd u 2),vI vU (wd u 3)] 26) = v1 at *
     obtain ⟨u0,u1,u2,u3⟩:=zac hF.ur
     obtain ⟨v0,v1,v2,v3⟩:=zac hF.vr
     obtain ⟨x0,x1,x2,x3⟩:=zac hF.xr
     obtain ⟨y0,y1,y2,y3⟩:=zac hF.yr
     obtain ⟨m0,m1,m2,m3⟩:=zac hF.mr
     obtain ⟨fu0,fu1,fu2,fu3⟩:=zah hF.ur
     obtain ⟨fv0,fv1,fv2,fv3⟩:=zah hF.vr
     obtain ⟨fx0,fx1,fx2,fx3⟩:=zah hF.xr
     obtain ⟨fy0,fy1,fy2,fy3⟩:=zah hF.yr
     obtain ⟨t0,t1,t2,t3⟩:=zac hT
     obtain ⟨ft0,ft1,ft2,ft3⟩:=zah hT
     go_upto_region 20 with (fail)
     clear u0 u1 u2 u3 v0 v1 v2 v3 x0 x1 x2 x3 y0 y1 y2 y3 m0 m1 m2 m3 fu0 fu1 fu2 fu3 fv0 fv1 fv2 fv3 fx0 fx1 fx2 fx3 fy0 fy1 fy2 fy3 t0 t1 t2 t3 ft0 ft1 ft2 ft3
     replace hF:=hF.putU v
     replace hT:=zai hT (b':=w.heap.size + 1 + 1 + 1) (by omega) (.int .u64 (wd v 0)) (.int .u64 (wd v 1)) (.int .u64 (wd v 2)) (.int .u64 (wd v 3))
     generalize (((v1.setCell ⟨w.heap.size + 1 + 1 + 1,0,none⟩ (.int .u64 (wd v 0))).setCell ⟨w.heap.size + 1 + 1 + 1,1,none⟩ (.int .u64 (wd v 1))).setCell ⟨w.heap.size + 1 + 1 + 1,2,none⟩ (.int .u64 (wd v 2))).setCell ⟨w.heap.size + 1 + 1 + 1,3,none⟩ (.int .u64 (wd v 3)) = v2 at *
     obtain ⟨u0,u1,u2,u3⟩:=zac hF.ur
     obtain ⟨v0,v1,v2,v3⟩:=zac hF.vr
     obtain ⟨x0,x1,x2,x3⟩:=zac hF.xr
     obtain ⟨y0,y1,y2,y3⟩:=zac hF.yr
     obtain ⟨m0,m1,m2,m3⟩:=zac hF.mr
     obtain ⟨fu0,fu1,fu2,fu3⟩:=zah hF.ur
     obtain ⟨fv0,fv1,fv2,fv3⟩:=zah hF.vr
     obtain ⟨fx0,fx1,fx2,fx3⟩:=zah hF.xr
     obtain ⟨fy0,fy1,fy2,fy3⟩:=zah hF.yr
     obtain ⟨t0,t1,t2,t3⟩:=zac hT
     obtain ⟨ft0,ft1,ft2,ft3⟩:=zah hT
     go_upto_region 21 with (fail)
     clear u0 u1 u2 u3 v0 v1 v2 v3 x0 x1 x2 x3 y0 y1 y2 y3 m0 m1 m2 m3 fu0 fu1 fu2 fu3 fv0 fv1 fv2 fv3 fx0 fx1 fx2 fx3 fy0 fy1 fy2 fy3 t0 t1 t2 t3 ft0 ft1 ft2 ft3
     replace hF:=hF.putV u
     replace hT:=zai hT (b':=w.heap.size + 1 + 1 + 1 + 1) (by omega) (.int .u64 (wd u 0)) (.int .u64 (wd u 1)) (.int .u64 (wd u 2)) (.int .u64 (wd u 3))
     generalize (((v2.setCell ⟨w.heap.size + 1 + 1 + 1 + 1,0,none⟩ (.int .u64 (wd u 0))).setCell ⟨w.heap.size + 1 + 1 + 1 + 1,1,none⟩ (.int .u64 (wd u 1))).setCell ⟨w.heap.size + 1 + 1 + 1 + 1,2,none⟩ (.int .u64 (wd u 2))).setCell ⟨w.heap.size + 1 + 1 + 1 + 1,3,none⟩ (.int .u64 (wd u 3)) = v3 at *
     obtain ⟨u0,u1,u2,u3⟩:=zac hF.ur
     obtain ⟨v0,v1,v2,v3⟩:=zac hF.vr
     obtain ⟨x0,x1,x2,x3⟩:=zac hF.xr
     obtain ⟨y0,y1,y2,y3⟩:=zac hF.yr
     obtain ⟨m0,m1,m2,m3⟩:=zac hF.mr
     obtain ⟨fu0,fu1,fu2,fu3⟩:=zah hF.ur
     obtain ⟨fv0,fv1,fv2,fv3⟩:=zah hF.vr
     obtain ⟨fx0,fx1,fx2,fx3⟩:=zah hF.xr
     obtain ⟨fy0,fy1,fy2,fy3⟩:=zah hF.yr
     obtain ⟨t0,t1,t2,t3⟩:=zac hT
     obtain ⟨ft0,ft1,ft2,ft3⟩:=zah hT
     go_upto_region 22 with (fail)
     clear u0 u1 u2 u3 v0 v1 v2 v3 x0 x1 x2 x3 y0 y1 y2 y3 m0 m1 m2 m3 fu0 fu1 fu2 fu3 fv0 fv1 fv2 fv3 fx0 fx1 fx2 fx3 fy0 fy1 fy2 fy3 t0 t1 t2 t3 ft0 ft1 ft2 ft3
     replace hT:=put4 hT (fun j => .int .u64 (wd x j))
     replace hF:=hF.putT hg x
     generalize (((v3.setCell ⟨g,0,none⟩ (.int .u64 (wd x 0))).setCell ⟨g,1,none⟩ (.int .u64 (wd x 1))).setCell ⟨g,2,none⟩ (.int .u64 (wd x 2))).setCell ⟨g,3,none⟩ (.int .u64 (wd x 3)) = v4 at *
     obtain ⟨u0,u1,u2,u3⟩:=zac hF.ur
     obtain ⟨v0,v1,v2,v3⟩:=zac hF.vr
     obtain ⟨x0,x1,x2,x3⟩:=zac hF.xr
     obtain ⟨y0,y1,y2,y3⟩:=zac hF.yr
     obtain ⟨m0,m1,m2,m3⟩:=zac hF.mr
     obtain ⟨fu0,fu1,fu2,fu3⟩:=zah hF.ur
     obtain ⟨fv0,fv1,fv2,fv3⟩:=zah hF.vr
     obtain ⟨fx0,fx1,fx2,fx3⟩:=zah hF.xr
     obtain ⟨fy0,fy1,fy2,fy3⟩:=zah hF.yr
     obtain ⟨t0,t1,t2,t3⟩:=zac hT
     obtain ⟨ft0,ft1,ft2,ft3⟩:=zah hT
     go_upto_region 23 with (fail)
     clear u0 u1 u2 u3 v0 v1 v2 v3 x0 x1 x2 x3 y0 y1 y2 y3 m0 m1 m2 m3 fu0 fu1 fu2 fu3 fv0 fv1 fv2 fv3 fx0 fx1 fx2 fx3 fy0 fy1 fy2 fy3 t0 t1 t2 t3 ft0 ft1 ft2 ft3
     replace hF:=hF.putX y
     replace hT:=zai hT (b':=w.heap.size + 1 + 1 + 1 + 1 + 1) (by omega) (.int .u64 (wd y 0)) (.int .u64 (wd y 1)) (.int .u64 (wd y 2)) (.int .u64 (wd y 3))
     generalize (((v4.setCell ⟨w.heap.size + 1 + 1 + 1 + 1 + 1,0,none⟩ (.int .u64 (wd y 0))).setCell ⟨w.heap.size + 1 + 1 + 1 + 1 + 1,1,none⟩ (.int .u64 (wd y 1))).setCell ⟨w.heap.size + 1 + 1 + 1 + 1 + 1,2,none⟩ (.int .u64 (wd y 2))).setCell ⟨w.heap.size + 1 + 1 + 1 + 1 + 1,3,none⟩ (.int .u64 (wd y 3)) = v5 at *
     obtain ⟨u0,u1,u2,u3⟩:=zac hF.ur
     obtain ⟨v0,v1,v2,v3⟩:=zac hF.vr
     obtain ⟨x0,x1,x2,x3⟩:=zac hF.xr
     obtain ⟨y0,y1,y2,y3⟩:=zac hF.yr
     obtain ⟨m0,m1,m2,m3⟩:=zac hF.mr
     obtain ⟨fu0,fu1,fu2,fu3⟩:=zah hF.ur
     obtain ⟨fv0,fv1,fv2,fv3⟩:=zah hF.vr
     obtain ⟨fx0,fx1,fx2,fx3⟩:=zah hF.xr
     obtain ⟨fy0,fy1,fy2,fy3⟩:=zah hF.yr
     obtain ⟨t0,t1,t2,t3⟩:=zac hT
     obtain ⟨ft0,ft1,ft2,ft3⟩:=zah hT
     go_upto_region 24 with (fail)
     clear u0 u1 u2 u3 v0 v1 v2 v3 x0 x1 x2 x3 y0 y1 y2 y3 m0 m1 m2 m3 fu0 fu1 fu2 fu3 fv0 fv1 fv2 fv3 fx0 fx1 fx2 fx3 fy0 fy1 fy2 fy3 t0 t1 t2 t3 ft0 ft1 ft2 ft3
     replace hF:=hF.putY x
     replace hT:=zai hT (b':=w.heap.size + 1 + 1 + 1 + 1 + 1 + 1) (by omega) (.int .u64 (wd x 0)) (.int .u64 (wd x 1)) (.int .u64 (wd x 2)) (.int .u64 (wd x 3))
     generalize (((v5.setCell ⟨w.heap.size + 1 + 1 + 1 + 1 + 1 + 1,0,none⟩ (.int .u64 (wd x 0))).setCell ⟨w.heap.size + 1 + 1 + 1 + 1 + 1 + 1,1,none⟩ (.int .u64 (wd x 1))).setCell ⟨w.heap.size + 1 + 1 + 1 + 1 + 1 + 1,2,none⟩ (.int .u64 (wd x 2))).setCell ⟨w.heap.size + 1 + 1 + 1 + 1 + 1 + 1,3,none⟩ (.int .u64 (wd x 3)) = v6 at *
     clear hT hg
     obtain ⟨u0,u1,u2,u3⟩:=zac hF.ur
     obtain ⟨v0,v1,v2,v3⟩:=zac hF.vr
     obtain ⟨x0,x1,x2,x3⟩:=zac hF.xr
     obtain ⟨y0,y1,y2,y3⟩:=zac hF.yr
     obtain ⟨m0,m1,m2,m3⟩:=zac hF.mr
     obtain ⟨fu0,fu1,fu2,fu3⟩:=zah hF.ur
     obtain ⟨fv0,fv1,fv2,fv3⟩:=zah hF.vr
     obtain ⟨fx0,fx1,fx2,fx3⟩:=zah hF.xr
     obtain ⟨fy0,fy1,fy2,fy3⟩:=zah hF.yr
     go_wp2_with fail
     refine (H2.out _).mono ?_
     rintro e w2 ⟨rfl,hb2⟩
     clear u0 u1 u2 u3 v0 v1 v2 v3 x0 x1 x2 x3 y0 y1 y2 y3 m0 m1 m2 m3 fu0 fu1 fu2 fu3 fv0 fv1 fv2 fv3 fx0 fx1 fx2 fx3 fy0 fy1 fy2 fy3
     replace hF:=hF.call hb2
     clear hb2
     obtain ⟨u0,u1,u2,u3⟩:=zac hF.ur
     obtain ⟨v0,v1,v2,v3⟩:=zac hF.vr
     obtain ⟨x0,x1,x2,x3⟩:=zac hF.xr
     obtain ⟨y0,y1,y2,y3⟩:=zac hF.yr
     obtain ⟨m0,m1,m2,m3⟩:=zac hF.mr
     obtain ⟨fu0,fu1,fu2,fu3⟩:=zah hF.ur
     obtain ⟨fv0,fv1,fv2,fv3⟩:=zah hF.vr
     obtain ⟨fx0,fx1,fx2,fx3⟩:=zah hF.xr
     obtain ⟨fy0,fy1,fy2,fy3⟩:=zah hF.yr
     go_upto_region 25 with (fail)
     clear u0 u1 u2 u3 v0 v1 v2 v3 x0 x1 x2 x3 y0 y1 y2 y3 m0 m1 m2 m3 fu0 fu1 fu2 fu3 fv0 fv1 fv2 fv3 fx0 fx1 fx2 fx3 fy0 fy1 fy2 fy3
     replace hF:=hF.putU D
     generalize (((w2.setCell ⟨w.heap.size + 1 + 1 + 1,0,none⟩ (.int .u64 (wd D 0))).setCell ⟨w.heap.size + 1 + 1 + 1,1,none⟩ (.int .u64 (wd D 1))).setCell ⟨w.heap.size + 1 + 1 + 1,2,none⟩ (.int .u64 (wd D 2))).setCell ⟨w.heap.size + 1 + 1 + 1,3,none⟩ (.int .u64 (wd D 3)) = v7 at *
     obtain ⟨u0,u1,u2,u3⟩:=zac hF.ur
     obtain ⟨v0,v1,v2,v3⟩:=zac hF.vr
     obtain ⟨x0,x1,x2,x3⟩:=zac hF.xr
     obtain ⟨y0,y1,y2,y3⟩:=zac hF.yr
     obtain ⟨m0,m1,m2,m3⟩:=zac hF.mr
     obtain ⟨fu0,fu1,fu2,fu3⟩:=zah hF.ur
     obtain ⟨fv0,fv1,fv2,fv3⟩:=zah hF.vr
     obtain ⟨fx0,fx1,fx2,fx3⟩:=zah hF.xr
     obtain ⟨fy0,fy1,fy2,fy3⟩:=zah hF.yr
     go_wp2_with fail
     refine (H3.out _).mono ?_
     rintro e w3 ⟨rfl,hb3⟩
     clear u0 u1 u2 u3 v0 v1 v2 v3 x0 x1 x2 x3 y0 y1 y2 y3 m0 m1 m2 m3 fu0 fu1 fu2 fu3 fv0 fv1 fv2 fv3 fx0 fx1 fx2 fx3 fy0 fy1 fy2 fy3
     replace hF:=hF.call hb3
     clear hb3
     obtain ⟨u0,u1,u2,u3⟩:=zac hF.ur
     obtain ⟨v0,v1,v2,v3⟩:=zac hF.vr
     obtain ⟨x0,x1,x2,x3⟩:=zac hF.xr
     obtain ⟨y0,y1,y2,y3⟩:=zac hF.yr
     obtain ⟨m0,m1,m2,m3⟩:=zac hF.mr
     obtain ⟨fu0,fu1,fu2,fu3⟩:=zah hF.ur
     obtain ⟨fv0,fv1,fv2,fv3⟩:=zah hF.vr
     obtain ⟨fx0,fx1,fx2,fx3⟩:=zah hF.xr
     obtain ⟨fy0,fy1,fy2,fy3⟩:=zah hF.yr
     go_upto_region 8 with (fail)
     clear u0 u1 u2 u3 v0 v1 v2 v3 x0 x1 x2 x3 y0 y1 y2 y3 m0 m1 m2 m3 fu0 fu1 fu2 fu3 fv0 fv1 fv2 fv3 fx0 fx1 fx2 fx3 fy0 fy1 fy2 fy3
     replace hF:=hF.putX K
     generalize (((w3.setCell ⟨w.heap.size + 1 + 1 + 1 + 1 + 1,0,none⟩ (.int .u64 (wd K 0))).setCell ⟨w.heap.size + 1 + 1 + 1 + 1 + 1,1,none⟩ (.int .u64 (wd K 1))).setCell ⟨w.heap.size + 1 + 1 + 1 + 1 + 1,2,none⟩ (.int .u64 (wd K 2))).setCell ⟨w.heap.size + 1 + 1 + 1 + 1 + 1,3,none⟩ (.int .u64 (wd K 3)) = v8 at *
     go_wp2
     go_roundw
     case rel => exact ⟨r + 1,D,u,K,x,by go_num,HN.out,hF⟩
     case measure => simp [intOf]; omega
    ·
     have hD : (u + top - v) % top = u - v:=by
      have:=hI.hu; have:=hI.hv
      rw [show u + top - v = (u - v) + top by omega,Nat.add_mod_right,Nat.mod_eq_of_lt (by omega)]
     obtain ⟨D,hDD⟩ : ∃ D,D = u - v:=⟨_,rfl⟩
     rw [← hDD] at hD
     have H2:=veil (fun W => zgs u v D hD hI.hu hI.hv W)
     obtain ⟨K,hK⟩ : ∃ K,K = (x + M - y) % M:=⟨_,rfl⟩
     have h3:=fun W => zjg x y M hI.hx hI.hy hM W
     rw [← hK] at h3
     have H3:=veil h3
     have H1:=veil (fun W => zge u v false (by simpa using hlt) hI.hu hI.hv W)
     have HN:=veil (inv_more hI HP.out (by omega))
     rw [← hDD,← hK] at HN
     clear hD hDD hK h3 hlt
     obtain ⟨u0,u1,u2,u3⟩:=zac hF.ur
     obtain ⟨v0,v1,v2,v3⟩:=zac hF.vr
     obtain ⟨x0,x1,x2,x3⟩:=zac hF.xr
     obtain ⟨y0,y1,y2,y3⟩:=zac hF.yr
     obtain ⟨m0,m1,m2,m3⟩:=zac hF.mr
     obtain ⟨fu0,fu1,fu2,fu3⟩:=zah hF.ur
     obtain ⟨fv0,fv1,fv2,fv3⟩:=zah hF.vr
     obtain ⟨fx0,fx1,fx2,fx3⟩:=zah hF.xr
     obtain ⟨fy0,fy1,fy2,fy3⟩:=zah hF.yr
     go_wp2_with fail
     refine (H1.out _).mono ?_
     rintro e w1 ⟨rfl,hb1⟩
     clear u0 u1 u2 u3 v0 v1 v2 v3 x0 x1 x2 x3 y0 y1 y2 y3 m0 m1 m2 m3 fu0 fu1 fu2 fu3 fv0 fv1 fv2 fv3 fx0 fx1 fx2 fx3 fy0 fy1 fy2 fy3
     clear z0 z1 z2 z3
     replace hF:=hF.call hb1
     clear hb1 kz hp hp0
     obtain ⟨u0,u1,u2,u3⟩:=zac hF.ur
     obtain ⟨v0,v1,v2,v3⟩:=zac hF.vr
     obtain ⟨x0,x1,x2,x3⟩:=zac hF.xr
     obtain ⟨y0,y1,y2,y3⟩:=zac hF.yr
     obtain ⟨m0,m1,m2,m3⟩:=zac hF.mr
     obtain ⟨fu0,fu1,fu2,fu3⟩:=zah hF.ur
     obtain ⟨fv0,fv1,fv2,fv3⟩:=zah hF.vr
     obtain ⟨fx0,fx1,fx2,fx3⟩:=zah hF.xr
     obtain ⟨fy0,fy1,fy2,fy3⟩:=zah hF.yr
     go_wp2_with fail
     refine (H2.out _).mono ?_
     rintro e w2 ⟨rfl,hb2⟩
     clear u0 u1 u2 u3 v0 v1 v2 v3 x0 x1 x2 x3 y0 y1 y2 y3 m0 m1 m2 m3 fu0 fu1 fu2 fu3 fv0 fv1 fv2 fv3 fx0 fx1 fx2 fx3 fy0 fy1 fy2 fy3
     replace hF:=hF.call hb2
     clear hb2
     obtain ⟨u0,u1,u2,u3⟩:=zac hF.ur
     obtain ⟨v0,v1,v2,v3⟩:=zac hF.vr
     obtain ⟨x0,x1,x2,x3⟩:=zac hF.xr
     obtain ⟨y0,y1,y2,y3⟩:=zac hF.yr
     obtain ⟨m0,m1,m2,m3⟩:=zac hF.mr
     obtain ⟨fu0,fu1,fu2,fu3⟩:=zah hF.ur
     obtain ⟨fv0,fv1,fv2,fv3⟩:=zah hF.vr
     obtain ⟨fx0,fx1,fx2,fx3⟩:=zah hF.xr
     obtain ⟨fy0,fy1,fy2,fy3⟩:=zah hF.yr
     go_upto_region 25 with (fail)
     clear u0 u1 u2 u3 v0 v1 v2 v3 x0 x1 x2 x3 y0 y1 y2 y3 m0 m1 m2 m3 fu0 fu1 fu2 fu3 fv0 fv1 fv2 fv3 fx0 fx1 fx2 fx3 fy0 fy1 fy2 fy3
     replace hF:=hF.putU D
     generalize (((w2.setCell ⟨w.heap.size + 1 + 1 + 1,0,none⟩ (.int .u64 (wd D 0))).setCell ⟨w.heap.size + 1 + 1 + 1,1,none⟩ (.int .u64 (wd D 1))).setCell ⟨w.heap.size + 1 + 1 + 1,2,none⟩ (.int .u64 (wd D 2))).setCell ⟨w.heap.size + 1 + 1 + 1,3,none⟩ (.int .u64 (wd D 3)) = v2 at *
     obtain ⟨u0,u1,u2,u3⟩:=zac hF.ur
     obtain ⟨v0,v1,v2,v3⟩:=zac hF.vr
     obtain ⟨x0,x1,x2,x3⟩:=zac hF.xr
     obtain ⟨y0,y1,y2,y3⟩:=zac hF.yr
     obtain ⟨m0,m1,m2,m3⟩:=zac hF.mr
     obtain ⟨fu0,fu1,fu2,fu3⟩:=zah hF.ur
     obtain ⟨fv0,fv1,fv2,fv3⟩:=zah hF.vr
     obtain ⟨fx0,fx1,fx2,fx3⟩:=zah hF.xr
     obtain ⟨fy0,fy1,fy2,fy3⟩:=zah hF.yr
     go_wp2_with fail
     refine (H3.out _).mono ?_
     rintro e w3 ⟨rfl,hb3⟩
     clear u0 u1 u2 u3 v0 v1 v2 v3 x0 x1 x2 x3 y0 y1 y2 y3 m0 m1 m2 m3 fu0 fu1 fu2 fu3 fv0 fv1 fv2 fv3 fx0 fx1 fx2 fx3 fy0 fy1 fy2 fy3
     replace hF:=hF.call hb3
     clear hb3
     obtain ⟨u0,u1,u2,u3⟩:=zac hF.ur
     obtain ⟨v0,v1,v2,v3⟩:=zac hF.vr
     obtain ⟨x0,x1,x2,x3⟩:=zac hF.xr
     obtain ⟨y0,y1,y2,y3⟩:=zac hF.yr
     obtain ⟨m0,m1,m2,m3⟩:=zac hF.mr
     obtain ⟨fu0,fu1,fu2,fu3⟩:=zah hF.ur
     obtain ⟨fv0,fv1,fv2,fv3⟩:=zah hF.vr
     obtain ⟨fx0,fx1,fx2,fx3⟩:=zah hF.xr
     obtain ⟨fy0,fy1,fy2,fy3⟩:=zah hF.yr
     go_upto_region 8 with (fail)
     clear u0 u1 u2 u3 v0 v1 v2 v3 x0 x1 x2 x3 y0 y1 y2 y3 m0 m1 m2 m3 fu0 fu1 fu2 fu3 fv0 fv1 fv2 fv3 fx0 fx1 fx2 fx3 fy0 fy1 fy2 fy3
     replace hF:=hF.putX K
     generalize (((w3.setCell ⟨w.heap.size + 1 + 1 + 1 + 1 + 1,0,none⟩ (.int .u64 (wd K 0))).setCell ⟨w.heap.size + 1 + 1 + 1 + 1 + 1,1,none⟩ (.int .u64 (wd K 1))).setCell ⟨w.heap.size + 1 + 1 + 1 + 1 + 1,2,none⟩ (.int .u64 (wd K 2))).setCell ⟨w.heap.size + 1 + 1 + 1 + 1 + 1,3,none⟩ (.int .u64 (wd K 3)) = v3 at *
     go_wp2
     go_roundw
     case rel => exact ⟨r + 1,D,v,K,y,by go_num,HN.out,hF⟩
     case measure => simp [intOf]; omega
end Go.Proofs.YtedehdbajiaaiaaGreatDoor
