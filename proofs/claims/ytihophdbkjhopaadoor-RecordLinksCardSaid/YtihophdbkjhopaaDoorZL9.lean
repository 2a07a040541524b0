/-
  Of Mul.
-/
import Derived.Deep.RegionHeld3
import Derived.Test.YtihophdbkjhopaaDoorZL8
set_option maxRecDepth 1000000
set_option maxHeartbeats 20000000
namespace Go.Proofs.YtihophdbkjhopaaDoor
open Go.RowKit
open Go.Value renaming int → vI
open Go.IntKind renaming u64 → vU
open Go.Act renaming put → aP
open List renaming setIfInBounds_toArray → lA, set_cons_zero → lZ, set_cons_succ → lS
def uw (X Y i j m : Nat) : Int:=(UU w64 X Y i j m : Nat)
def cw (X Y i j : Nat) : Int:=(CC w64 X Y i j : Nat)
theorem uw_bd (X Y i j m : Nat) : 0 ≤ uw X Y i j m ∧ uw X Y i j m ≤ 18446744073709551615:=by
 have:=UU_lt zam X Y i j m
 unfold uw; unfold w64 at *; omega
theorem cw_bd (X Y i j : Nat) : 0 ≤ cw X Y i j ∧ cw X Y i j ≤ 18446744073709551615:=by
 have:=CC_lt zam X Y i j
 unfold cw; unfold w64 at *; omega
theorem mulAdd_at (X Y i j : Nat) (w : World) :
  Calls Tryd.prog 73 #[vI vU (wd X i),vI vU (wd Y j),vI vU (uw X Y i j (i + j)),vI vU (cw X Y i j)] w fun e w' => e = .returned (.tuple #[vI vU (uw X Y i (j + 1) (i + j)),vI vU (cw X Y i (j + 1))]) ∧ w = w':=by
 have h:=mulAdd_calls (wd X i) (wd Y j) (uw X Y i j (i + j)) (cw X Y i j) (wd_lo _ _) (wd_le _ _) (wd_lo _ _) (wd_le _ _) (uw_bd X Y i j _).1 (uw_bd X Y i j _).2 (cw_bd X Y i j).1 (cw_bd X Y i j).2 w
 have e1 : (wd X i * wd Y j + uw X Y i j (i + j) + cw X Y i j) % 18446744073709551616 = uw X Y i (j + 1) (i + j):=by
  unfold wd uw cw
  rw [UU_step zam X Y i j,← Int.natCast_mul,← Int.natCast_add,← Int.natCast_add,Int.natCast_emod]
  rfl
 have e2 : (wd X i * wd Y j + uw X Y i j (i + j) + cw X Y i j) / 18446744073709551616 = cw X Y i (j + 1):=by
  unfold wd uw cw
  rw [CC_step zam X Y i j,← Int.natCast_mul,← Int.natCast_add,← Int.natCast_add,Int.natCast_ediv]
  rfl
 rw [e1,e2] at h
 exact h.mono fun _ _ ⟨a,b⟩ => ⟨a,b.symm⟩
theorem mul_put {X Y i j : Nat} : ∀ m,m < 8 → (if m = i + j then Value.int .u64 (uw X Y i (j + 1) (i + j)) else Value.int .u64 (uw X Y i j m)) = Value.int .u64 (uw X Y i (j + 1) m):=by
 intro m _
 by_cases h : m = i + j
 ·
  rw [if_pos h,h]
 ·
  rw [if_neg h]; unfold uw; rw [UU_other X Y i j m h]
def rw_ (X Y i m : Nat) : Int:=(dg w64 (PP w64 X Y i) m : Nat)
theorem uw_start (X Y i m : Nat) : uw X Y i 0 m = rw_ X Y i m:=by unfold uw rw_; rw [UU_start]
theorem cw_start (X Y i : Nat) : cw X Y i 0 = 0:=by unfold cw; rw [CC_start zam]; rfl
theorem mul_row {X Y i : Nat} (hY : Y < top) : ∀ m,m < 8 → (if m = i + 4 then Value.int .u64 (cw X Y i 4) else Value.int .u64 (uw X Y i 4 m)) = Value.int .u64 (rw_ X Y (i + 1) m):=by
 intro m _
 have h:=PP_row zam X Y i 4 m hY
 unfold rw_
 rw [h]
 by_cases e : m = i + 4
 ·
  rw [if_pos e,if_pos e]; rfl
 ·
  rw [if_neg e,if_neg e]; rfl
theorem rw_zero (X Y m : Nat) : rw_ X Y 0 m = 0:=by unfold rw_; rw [PP_zero,dg_zero]; rfl
theorem rw_end {X Y m : Nat} (hX : X < top) : rw_ X Y 4 m = wd (X * Y) m:=by unfold rw_ wd; rw [PP_end X Y 4 hX]
theorem mul_calls (X Y : Nat) (hX : X < top) (hY : Y < top) (w : World) :
  Calls Tryd.prog 48 #[.agg #[vI vU (wd X 0),vI vU (wd X 1),vI vU (wd X 2),vI vU (wd X 3)],.agg #[vI vU (wd Y 0),vI vU (wd Y 1),vI vU (wd Y 2),vI vU (wd Y 3)]] w fun e w' => e = .returned (.agg #[vI vU (wd (X * Y) 0),vI vU (wd (X * Y) 1),vI vU (wd (X * Y) 2),vI vU (wd (X * Y) 3),vI vU (wd (X * Y) 4),vI vU (wd (X * Y) 5),vI vU (wd (X * Y) 6),vI vU (wd (X * Y) 7)]) ∧ Below w.heap.size w w':=by
 go_enter Tryd.func48,Tryd.ntmps48
 go_wp2
 go_loopw [9] (fun i wr => ∃ k : Nat,k ≤ 4 ∧ i = .int .i64 k ∧ wr.rowIs w.heap.size 25 4 (fun j => .int .u64 (wd X j)) ∧ wr.rowIs (w.heap.size + 1) 25 4 (fun j => .int .u64 (wd Y j))
   ∧ wr.rowIs (w.heap.size + 1 + 1) 102 8 (fun _ => .int .u64 0) ∧ wr.rowIs (w.heap.size + 1 + 1 + 1) 102 8 (fun m => .int .u64 (rw_ X Y k m)) ∧ Below w.heap.size w wr)
  (fun i _ => 4 - (intOf i).toNat)
 case atStart => exact ⟨0,by omega,rfl,(((zad (n:=4) (by simp) rfl (arr4 fun j => .int .u64 (wd X j))).alloc _).alloc _).alloc _,((zad (n:=4) (by simp) rfl (arr4 fun j => .int .u64 (wd Y j))).alloc _).alloc _,(zad (n:=8) (by simp) rfl (arr8 fun _ => .int .u64 0)).alloc _,
  (zad (n:=8) (f:=fun _ => .int .u64 0) (by simp) rfl (arr8 fun _ => .int .u64 0)).congr (fun m _ => by rw [rw_zero]),((((Below.refl _ _).alloc (by simp) _).alloc (by simp) _).alloc (by simp; omega) _).alloc (by simp; omega) _⟩
 case round =>
  obtain ⟨i,hi4,rfl,hRX0,hRY0,hRZ0,hP0,hbel0⟩:=hrel
  by_cases hlt : i < 4
  ·
   have hd : decide ((i : Int) < 4) = true:=by simp; omega
   go_wp2
   obtain ⟨wo,hwo⟩ : ∃ wo : World,wo = wr:=⟨_,rfl⟩
   rw [← hwo] at hRX0 hRY0 hRZ0 hP0 hbel0 ⊢
   clear hwo
   go_loopw [7,12] (fun c q wq => ∃ j : Nat,j ≤ 4 ∧ q = .int .i64 j ∧ c = .int .u64 (cw X Y i j) ∧ wq.rowIs w.heap.size 25 4 (fun j => .int .u64 (wd X j)) ∧ wq.rowIs (w.heap.size + 1) 25 4 (fun j => .int .u64 (wd Y j))
     ∧ wq.rowIs (w.heap.size + 1 + 1) 102 8 (fun _ => .int .u64 0) ∧ wq.rowIs (w.heap.size + 1 + 1 + 1) 102 8 (fun m => .int .u64 (uw X Y i j m)) ∧ Below w.heap.size w wq)
    (fun _ q _ => 4 - (intOf q).toNat)
   case atStart => exact ⟨0,by omega,rfl,by rw [cw_start],hRX0,hRY0,hRZ0,hP0.congr (fun m _ => by rw [uw_start]),hbel0⟩
   case round =>
    obtain ⟨j,hj4,rfl,rfl,hRX,hRY,hRZ,hP,hbel⟩:=hrel
    by_cases hlj : j < 4
    ·
     have c1:=hRX.cell hlt
     have c2:=hRY.cell hlj
     obtain ⟨t,ht⟩ : ∃ t,t = i + j:=⟨_,rfl⟩
     have hti : (i : Int) + (j : Int) = (t : Int):=by omega
     have ht8 : (t : Int) < 8:=by omega
     have ht0 : (0 : Int) ≤ (t : Int):=by omega
     have htw : IntKind.i64.wrap (t : Int) = (t : Int):=IntWalk.i64_in _ (by omega)
     have htn : (t : Int).toNat = t:=by omega
     have c3:=hP.cell (i:=t) (by omega)
     have f3:=hP.frozen t
     have hM:=fun W => mulAdd_at X Y i j W
     rw [← ht] at hM
     have HM:=veil hM
     have HT:=veil ht
     clear hM ht
     clear hRX0 hRY0 hRZ0 hP0 hbel0
     go_wp2
     go_region_with (go_at_call 73; refine (HM.out _).mono ?_; rintro e w' ⟨rfl,rfl⟩)
     all_goals
      go_wp2
      go_roundw
      case rel => exact ⟨j + 1,by omega,by go_num,rfl,(zan hRX (by omega) _).drew,(zan hRY (by omega) _).drew,(zan hRZ (by omega) _).drew,((hP.set t _).congr (by rw [HT.out]; exact mul_put)).drew,(zab hbel (by omega) _).drew⟩
      case measure => simp [intOf]; omega
    ·
     obtain rfl : j = 4:=by omega
     clear hRX0 hRY0 hRZ0 hP0 hbel0
     obtain ⟨t,ht⟩ : ∃ t,t = i + 4:=⟨_,rfl⟩
     have hti : (i : Int) + 4 = (t : Int):=by omega
     have ht8 : (t : Int) < 8:=by omega
     have ht0 : (0 : Int) ≤ (t : Int):=by omega
     have c3:=hP.cell (i:=t) (by omega)
     have f3:=hP.frozen t
     have HT:=veil ht
     clear ht
     go_wp2
     go_roundw
     case rel => exact ⟨i + 1,by omega,by go_num,zan hRX (by omega) _,zan hRY (by omega) _,zan hRZ (by omega) _,(hP.set t _).congr (by rw [HT.out]; exact mul_row hY),zab hbel (by omega) _⟩
     case measure => simp [intOf]; omega
  ·
   obtain rfl : i = 4:=by omega
   have hP:=hP0.congr (g:=fun m => .int .u64 (wd (X * Y) m)) (fun m _ => by rw [rw_end hX])
   obtain ⟨c0,c1,c2,c3,c4,c5,c6,c7⟩:=row_c8 hP
   obtain ⟨d0,d1,d2,d3,d4,d5,d6,d7⟩:=row_c8 hRZ0
   obtain ⟨f0,f1,f2,f3,f4,f5,f6,f7⟩:=row_f8 hRZ0
   clear hRX0 hRY0 hP0 hP
   go_wp2
   refine bodyPost_ret (results_cell_row rfl _ _ (w.heap.size + 1 + 1) 102 #[vI vU (wd (X * Y) 0),vI vU (wd (X * Y) 1),vI vU (wd (X * Y) 2),vI vU (wd (X * Y) 3),vI vU (wd (X * Y) 4),vI vU (wd (X * Y) 5),vI vU (wd (X * Y) 6),vI vU (wd (X * Y) 7)] (0,0) _ rfl (blk8 (put8 hRZ0 fun j => .int .u64 (wd (X * Y) j))) Tryd.underlying102 rfl (by kernel_rfl)) rfl ⟨rfl,below_put8 hbel0 (by omega) _ _ _ _ _ _ _ _⟩
end Go.Proofs.YtihophdbkjhopaaDoor
