/-
  Of Add Sub Cmp G1 G2 G3 G4 G5a G5.
-/
import Derived.Test.YtihophdbkjhopaaGreatDoorRows
import Derived.WalkKit
import Derived.WalkSpells
import Derived.WalkLawsBesides
import Derived.Deep.LoopGhost
import Derived.Deep.RegionWith
import Derived.Deep.QuietTactic
import Derived.BigQuiet
import Derived.Deep.CutRange
import Derived.Deep.RegionHeld3
import Derived.Test.YtihophdbkjhopaaGreatDoorZC1
import Derived.Test.YtihophdbkjhopaaGreatDoorZC4
set_option maxRecDepth 1000000
set_option maxHeartbeats 20000000
namespace Go.Proofs.YtihophdbkjhopaaGreatDoor
open Go.RowKit
open Go.Value renaming int → vI
open Go.IntKind renaming u64 → vU
open Go.Act renaming put → aP
open List renaming setIfInBounds_toArray → lA, set_cons_zero → lZ, set_cons_succ → lS
theorem add64 (x y c : Int) (hx : 0 ≤ x) (hy : 0 ≤ y) (hc0 : 0 ≤ c) (hc : c ≤ 1) (w : World) :
  (callFunc 166 #[vI vU x,vI vU y,vI vU c]).run Tryz.prog w = .ok (.value (.tuple #[vI vU ((x + y + c) % 18446744073709551616),vI vU ((x + y + c) / 18446744073709551616)])) w:=by
 rw [run_callFunc_extern Tryz.func166 (by kernel_rfl) (by kernel_rfl) (by kernel_rfl) (e:=add64Entry) (by kernel_rfl),run_add64 x y c hx hy hc0 hc]
 rfl
def cyI (X Y i : Nat) : Int:=(cy w64 X Y i : Nat)
theorem add64_at (X Y k : Nat) (w : World) :
  (callFunc 166 #[vI vU (wd X k),vI vU (wd Y k),vI vU (cyI X Y k)]).run Tryz.prog w = .ok (.value (.tuple #[vI vU (wd (X + Y) k),vI vU (cyI X Y (k + 1))])) w:=by
 have hc:=cy_le zak X Y k
 rw [add64 _ _ _ (wd_lo _ _) (wd_lo _ _) (by unfold cyI; omega) (by unfold cyI; omega)]
 unfold wd cyI
 rw [cy_succ zak,dg_add zak]
 unfold w64
 simp
theorem cyI_top {X Y : Nat} (hX : X < top) (hY : Y < top) : (cyI X Y 4 != 0) = decide (top ≤ X + Y):=by
 unfold cyI
 rw [cy_top (n:=4) hX hY]
 show _ = decide (w64 ^ 4 ≤ X + Y)
 by_cases h : w64 ^ 4 ≤ X + Y <;> simp [h]
theorem add_any (X Y : Nat) (hX : X < top) (hY : Y < top) (w : World) :
  Calls Tryz.prog 155 #[.agg #[vI vU (wd X 0),vI vU (wd X 1),vI vU (wd X 2),vI vU (wd X 3)],.agg #[vI vU (wd Y 0),vI vU (wd Y 1),vI vU (wd Y 2),vI vU (wd Y 3)]] w fun e w' =>
   e = .returned (.tuple #[.agg #[vI vU (wd (X + Y) 0),vI vU (wd (X + Y) 1),vI vU (wd (X + Y) 2),vI vU (wd (X + Y) 3)],.bool (decide (top ≤ X + Y))]) ∧ Below w.heap.size w w':=by
 have h29:=fun (k : Nat) (W : World) => add64_at X Y k W
 go_enter Tryz.func155,Tryz.ntmps155
 go_wp2
 go_loopw [7,9] (fun c i wr => ∃ k : Nat,k ≤ 4 ∧ i = .int .i64 k ∧ c = .int .u64 (cyI X Y k) ∧ wr.rowIs w.heap.size 29 4 (fun j => .int .u64 (wd X j))
   ∧ wr.rowIs (w.heap.size + 1) 29 4 (fun j => .int .u64 (wd Y j)) ∧ wr.rowIs (w.heap.size + 1 + 1) 29 4 (fun _ => .int .u64 0)
   ∧ wr.rowIs (w.heap.size + 1 + 1 + 1) 29 4 (fun j => .int .u64 (if j < k then wd (X + Y) j else 0)) ∧ Below w.heap.size w wr)
  (fun _ i _ => 4 - (intOf i).toNat)
 case atStart => exact ⟨0,by omega,rfl,by simp [cyI,cy_zero],(((zag (n:=4) (by simp) rfl (arr4 fun j => .int .u64 (wd X j))).alloc _).alloc _).alloc _,((zag (n:=4) (by simp) rfl (arr4 fun j => .int .u64 (wd Y j))).alloc _).alloc _,(zag (n:=4) (by simp) rfl (arr4 fun _ => .int .u64 0)).alloc _,zag (n:=4) (by simp) rfl (arr4 fun _ => .int .u64 0),((((Below.refl _ _).alloc (by simp) _).alloc (by simp) _).alloc (by simp; omega) _).alloc (by simp; omega) _⟩
 case round =>
  obtain ⟨k,hk,rfl,rfl,hRX,hRY,hRZ,hRS,hbel⟩:=hrel
  by_cases hlt : k < 4
  ·
   have c1:=hRX.cell hlt
   have c2:=hRY.cell hlt
   have c3:=hRS.cell hlt
   have f3:=hRS.frozen k
   go_wp2
   go_region_with (fail)
   all_goals
    go_wp2
    go_roundw
    case rel => exact ⟨k + 1,by omega,by go_num,rfl,(zar hRX (by omega) _).drew,(zar hRY (by omega) _).drew,(zar hRZ (by omega) _).drew,((hRS.set k _).congr (row_step hlt)).drew,(zaf hbel (by omega) _).drew⟩
    case measure => simp [intOf]; omega
  ·
   obtain rfl : k = 4:=by omega
   obtain ⟨c0,c1,c2,c3⟩:=zaj hRS
   obtain ⟨d0,d1,d2,d3⟩:=zaj hRZ
   obtain ⟨f0,f1,f2,f3⟩:=zbm hRZ
   simp only [show (0 : Nat) < 4 from by omega,show (1 : Nat) < 4 from by omega,show (2 : Nat) < 4 from by omega,show (3 : Nat) < 4 from by omega,if_true] at c0 c1 c2 c3
   clear hRX hRY hRS
   have hz:=cyI_top hX hY
   go_wp2
   refine bodyPost_ret (zcf rfl _ _ (w.heap.size + 1 + 1) 29 #[vI vU (wd (X + Y) 0),vI vU (wd (X + Y) 1),vI vU (wd (X + Y) 2),vI vU (wd (X + Y) 3)] (0,0) 4 27 rfl (blk4 (put4 hRZ fun j => .int .u64 (wd (X + Y) j))) Tryz.underlying29 (by kernel_rfl)) rfl ⟨?_,zax hbel (by omega) _ _ _ _⟩
   rfl
theorem add_calls (X Y : Nat) (hX : X < top) (hY : Y < top) (w : World) :
  Calls Tryz.prog 155 #[.agg #[vI vU (wd X 0),vI vU (wd X 1),vI vU (wd X 2),vI vU (wd X 3)],.agg #[vI vU (wd Y 0),vI vU (wd Y 1),vI vU (wd Y 2),vI vU (wd Y 3)]] w fun e w' => e = .returned (.tuple #[.agg #[vI vU (wd ((X + Y) % top) 0),vI vU (wd ((X + Y) % top) 1),vI vU (wd ((X + Y) % top) 2),vI vU (wd ((X + Y) % top) 3)],.bool (decide (top ≤ X + Y))]) ∧ Below w.heap.size w w':=by
 rw [zea _ 0 (by omega),zea _ 1 (by omega),zea _ 2 (by omega),zea _ 3 (by omega)]
 exact add_any X Y hX hY w
def sub64Entry : Array Value → Sem Value:=fun args => do
 let (x,y,b) ← Extern.MathBitsCarry.three "Sub64" args
 pure (Extern.MathBitsCarry.pair ((x + Extern.MathBitsCarry.m64 - y - b) % Extern.MathBitsCarry.m64) (if x < y + b then 1 else 0))
theorem run_sub64 (x y b : Nat) (hb : b ≤ 1) (w : World) :
  (sub64Entry #[vI vU (x : Int),vI vU (y : Int),vI vU (b : Int)]).run Tryz.prog w =
   .ok (.tuple #[vI vU (((x + w64 - y - b) % w64 : Nat) : Int),vI vU ((if x < y + b then 1 else 0 : Nat) : Int)]) w:=by
 have : b = 0 ∨ b = 1:=by omega
 rcases this with rfl | rfl <;> rfl
theorem sub64 (x y b : Nat) (hb : b ≤ 1) (w : World) :
  (callFunc 156 #[vI vU (x : Int),vI vU (y : Int),vI vU (b : Int)]).run Tryz.prog w = .ok (.value (.tuple #[vI vU (((x + w64 - y - b) % w64 : Nat) : Int),vI vU ((if x < y + b then 1 else 0 : Nat) : Int)])) w:=by
 rw [run_callFunc_extern Tryz.func156 (by kernel_rfl) (by kernel_rfl) (by kernel_rfl) (e:=sub64Entry) (by kernel_rfl),run_sub64 x y b hb]
 rfl
def bwI (X Y i : Nat) : Int:=(bw w64 X Y i : Nat)
theorem sub64_at (X Y k : Nat) (hk : k < 4) (hY : Y ≤ top) (w : World) :
  (callFunc 156 #[vI vU (wd X k),vI vU (wd Y k),vI vU (bwI X Y k)]).run Tryz.prog w = .ok (.value (.tuple #[vI vU (wd (X + top - Y) k),vI vU (bwI X Y (k + 1))])) w:=by
 unfold wd bwI
 rw [sub64 _ _ _ (bw_le w64 X Y k)]
 unfold top at hY ⊢
 rw [bw_succ zak,dg_sub zak X Y 4 k hk hY]
theorem bwI_top {X Y : Nat} (hX : X < top) (hY : Y < top) : (bwI X Y 4 != 0) = decide (X < Y):=by
 unfold bwI
 rw [bw_top (n:=4) hX hY]
 by_cases h : X < Y <;> simp [h]
theorem sub_any (X Y : Nat) (hX : X < top) (hY : Y < top) (w : World) :
  Calls Tryz.prog 128 #[.agg #[vI vU (wd X 0),vI vU (wd X 1),vI vU (wd X 2),vI vU (wd X 3)],.agg #[vI vU (wd Y 0),vI vU (wd Y 1),vI vU (wd Y 2),vI vU (wd Y 3)]] w fun e w' =>
   e = .returned (.tuple #[.agg #[vI vU (wd (X + top - Y) 0),vI vU (wd (X + top - Y) 1),vI vU (wd (X + top - Y) 2),vI vU (wd (X + top - Y) 3)],.bool (decide (X < Y))]) ∧ Below w.heap.size w w':=by
 go_enter Tryz.func128,Tryz.ntmps128
 go_wp2
 go_loopw [7,9] (fun c i wr => ∃ k : Nat,k ≤ 4 ∧ i = .int .i64 k ∧ c = .int .u64 (bwI X Y k) ∧ wr.rowIs w.heap.size 29 4 (fun j => .int .u64 (wd X j))
   ∧ wr.rowIs (w.heap.size + 1) 29 4 (fun j => .int .u64 (wd Y j)) ∧ wr.rowIs (w.heap.size + 1 + 1) 29 4 (fun _ => .int .u64 0)
   ∧ wr.rowIs (w.heap.size + 1 + 1 + 1) 29 4 (fun j => .int .u64 (if j < k then wd (X + top - Y) j else 0)) ∧ Below w.heap.size w wr)
  (fun _ i _ => 4 - (intOf i).toNat)
 case atStart => exact ⟨0,by omega,rfl,by simp [bwI,bw_zero],(((zag (n:=4) (by simp) rfl (arr4 fun j => .int .u64 (wd X j))).alloc _).alloc _).alloc _,((zag (n:=4) (by simp) rfl (arr4 fun j => .int .u64 (wd Y j))).alloc _).alloc _,(zag (n:=4) (by simp) rfl (arr4 fun _ => .int .u64 0)).alloc _,zag (n:=4) (by simp) rfl (arr4 fun _ => .int .u64 0),((((Below.refl _ _).alloc (by simp) _).alloc (by simp) _).alloc (by simp; omega) _).alloc (by simp; omega) _⟩
 case round =>
  obtain ⟨k,hk,rfl,rfl,hRX,hRY,hRZ,hRS,hbel⟩:=hrel
  by_cases hlt : k < 4
  ·
   have c1:=hRX.cell hlt
   have c2:=hRY.cell hlt
   have c3:=hRS.cell hlt
   have f3:=hRS.frozen k
   have h30:=fun (W : World) => sub64_at X Y k hlt (Nat.le_of_lt hY) W
   go_wp2
   go_region_with (fail)
   all_goals
    go_wp2
    go_roundw
    case rel => exact ⟨k + 1,by omega,by go_num,rfl,(zar hRX (by omega) _).drew,(zar hRY (by omega) _).drew,(zar hRZ (by omega) _).drew,((hRS.set k _).congr (row_step hlt)).drew,(zaf hbel (by omega) _).drew⟩
    case measure => simp [intOf]; omega
  ·
   obtain rfl : k = 4:=by omega
   obtain ⟨c0,c1,c2,c3⟩:=zaj hRS
   obtain ⟨d0,d1,d2,d3⟩:=zaj hRZ
   obtain ⟨f0,f1,f2,f3⟩:=zbm hRZ
   simp only [show (0 : Nat) < 4 from by omega,show (1 : Nat) < 4 from by omega,show (2 : Nat) < 4 from by omega,show (3 : Nat) < 4 from by omega,if_true] at c0 c1 c2 c3
   clear hRX hRY hRS
   have hz:=bwI_top hX hY
   go_wp2
   refine bodyPost_ret (zcf rfl _ _ (w.heap.size + 1 + 1) 29 #[vI vU (wd (X + top - Y) 0),vI vU (wd (X + top - Y) 1),vI vU (wd (X + top - Y) 2),vI vU (wd (X + top - Y) 3)] (0,0) 4 27 rfl (blk4 (put4 hRZ fun j => .int .u64 (wd (X + top - Y) j))) Tryz.underlying29 (by kernel_rfl)) rfl ⟨?_,zax hbel (by omega) _ _ _ _⟩
   rfl
theorem sub_calls (X Y : Nat) (hX : X < top) (hY : Y < top) (w : World) :
  Calls Tryz.prog 128 #[.agg #[vI vU (wd X 0),vI vU (wd X 1),vI vU (wd X 2),vI vU (wd X 3)],.agg #[vI vU (wd Y 0),vI vU (wd Y 1),vI vU (wd Y 2),vI vU (wd Y 3)]] w fun e w' => e = .returned (.tuple #[.agg #[vI vU (wd ((X + top - Y) % top) 0),vI vU (wd ((X + top - Y) % top) 1),vI vU (wd ((X + top - Y) % top) 2),vI vU (wd ((X + top - Y) % top) 3)],.bool (decide (X < Y))]) ∧ Below w.heap.size w w':=by
 rw [zea _ 0 (by omega),zea _ 1 (by omega),zea _ 2 (by omega),zea _ 3 (by omega)]
 exact sub_any X Y hX hY w
def cmpN (X Y : Nat) : Int:=if X < Y then -1 else if Y < X then 1 else 0
theorem zju (B X Y k : Nat) (hB : 0 < B) : cmpN (X % B ^ (k + 1)) (Y % B ^ (k + 1)) = if dg B X k < dg B Y k then -1 else if dg B Y k < dg B X k then 1 else cmpN (X % B ^ k) (Y % B ^ k):=by
 have hp : 0 < B ^ k:=Nat.pow_pos hB
 have h1:=Nat.mod_lt X hp
 have h2:=Nat.mod_lt Y hp
 unfold cmpN
 rw [zbv,zbv]
 generalize dg B X k = x
 generalize dg B Y k = y
 generalize X % B ^ k = r at *
 generalize Y % B ^ k = s at *
 generalize B ^ k = P at *
 by_cases hxy : x < y
 ·
  have : P * x + P ≤ P * y:=by rw [← Nat.mul_succ]; exact Nat.mul_le_mul_left _ hxy
  rw [if_pos (by omega),if_pos hxy]
 ·
  by_cases hyx : y < x
  ·
   have : P * y + P ≤ P * x:=by rw [← Nat.mul_succ]; exact Nat.mul_le_mul_left _ hyx
   rw [if_neg (by omega),if_pos (by omega),if_neg hxy,if_pos hyx]
  ·
   have hxy' : x = y:=by omega
   subst hxy'
   simp
theorem cmp_high (B X Y n m : Nat) (hB : 0 < B) (hX : X < B ^ n) (hY : Y < B ^ n) (hm : m < n) (h : ∀ j,m < j → j < n → dg B X j = dg B Y j) (hne : dg B X m ≠ dg B Y m) :
  cmpN X Y = if dg B X m < dg B Y m then -1 else 1:=by
 have e : X / B ^ (m + 1) = Y / B ^ (m + 1):=by
  have hn : B ^ n = B ^ (m + 1) * B ^ (n - (m + 1)):=by rw [← Nat.pow_add]; congr 1; omega
  refine zgu hB (n:=n - (m + 1)) ?_ ?_ fun i hi => ?_
  ·
   rw [Nat.div_lt_iff_lt_mul (Nat.pow_pos hB),Nat.mul_comm,← hn]; exact hX
  ·
   rw [Nat.div_lt_iff_lt_mul (Nat.pow_pos hB),Nat.mul_comm,← hn]; exact hY
  ·
   have:=h (m + 1 + i) (by omega) (by omega)
   unfold dg at *
   rwa [Nat.div_div_eq_div_mul,Nat.div_div_eq_div_mul,← Nat.pow_add]
 have c : cmpN X Y = cmpN (X % B ^ (m + 1)) (Y % B ^ (m + 1)):=by
  have hx:=Nat.mod_add_div X (B ^ (m + 1))
  have hy:=Nat.mod_add_div Y (B ^ (m + 1))
  rw [e] at hx
  unfold cmpN
  generalize B ^ (m + 1) * (Y / B ^ (m + 1)) = q at *
  generalize X % B ^ (m + 1) = r at *
  generalize Y % B ^ (m + 1) = s at *
  subst hx; subst hy
  simp
 rw [c,zju B X Y m hB]
 by_cases hlt : dg B X m < dg B Y m
 ·
  rw [if_pos hlt,if_pos hlt]
 ·
  rw [if_neg hlt,if_neg hlt,if_pos (by omega)]
theorem compare_lt (x y : Int) (h : x < y) (w : World) : Calls Tryz.prog 134 #[vI vU x,vI vU y] w fun e w' => e = .returned (.int .i64 (-1)) ∧ w' = w:=by
 go_enter Tryz.func134,Tryz.ntmps134
 go_wp2
 go_ret
 exact ⟨rfl,rfl⟩
theorem compare_gt (x y : Int) (h : y < x) (w : World) : Calls Tryz.prog 134 #[vI vU x,vI vU y] w fun e w' => e = .returned (.int .i64 1) ∧ w' = w:=by
 go_enter Tryz.func134,Tryz.ntmps134
 go_wp2
 go_ret
 exact ⟨rfl,rfl⟩
theorem wd_cmp {X Y k : Nat} (h : dg w64 X k < dg w64 Y k) : wd X k < wd Y k:=by unfold wd; omega
theorem cmp_calls (X Y : Nat) (hX : X < top) (hY : Y < top) (w : World) :
  Calls Tryz.prog 98 #[.agg #[vI vU (wd X 0),vI vU (wd X 1),vI vU (wd X 2),vI vU (wd X 3)],.agg #[vI vU (wd Y 0),vI vU (wd Y 1),vI vU (wd Y 2),vI vU (wd Y 3)]] w fun e w' => e = .returned (.int .i64 (cmpN X Y)) ∧ Below w.heap.size w w':=by
 go_enter Tryz.func98,Tryz.ntmps98
 go_wp2
 go_loopw [5] (fun i wr => ∃ k : Nat,k ≤ 4 ∧ i = .int .i64 ((k : Int) - 1) ∧ (∀ j,k ≤ j → j < 4 → dg w64 X j = dg w64 Y j) ∧ wr.rowIs w.heap.size 29 4 (fun j => .int .u64 (wd X j))
   ∧ wr.rowIs (w.heap.size + 1) 29 4 (fun j => .int .u64 (wd Y j)) ∧ Below w.heap.size w wr)
  (fun i _ => (intOf i + 1).toNat)
 case atStart => exact ⟨4,by omega,rfl,by intro j h1 h2; omega,(zag (n:=4) (by simp) rfl (arr4 fun j => .int .u64 (wd X j))).alloc _,zag (n:=4) (by simp) rfl (arr4 fun j => .int .u64 (wd Y j)),((Below.refl _ _).alloc (by simp) _).alloc (by simp) _⟩
 case round =>
  obtain ⟨k,hk,hi,hall,hRX,hRY,hbel⟩:=hrel
  have HALL:=veil hall
  clear hall
  cases k with
  | zero =>
   subst hi
   have hXY : X = Y:=zgu zak hX hY fun j hj => HALL.out j (Nat.zero_le _) hj
   go_wp2
   go_ret
   have hc : cmpN X Y = 0:=by unfold cmpN; rw [if_neg (by omega),if_neg (by omega)]
   rw [hc]
   exact ⟨rfl,hbel⟩
  | succ m =>
   obtain rfl : _ = Value.int .i64 (m : Int):=hi.trans (by congr 1; omega)
   have hm : m < 4:=by omega
   go_wp2
   have c1:=hRX.cell hm
   have c2:=hRY.cell hm
   rcases Nat.lt_trichotomy (dg w64 X m) (dg w64 Y m) with h | h | h
   ·
    have hlt:=wd_cmp h
    have hne : (wd X m != wd Y m) = true:=by rw [bne_iff_ne]; omega
    have hc : cmpN X Y = -1:=by rw [cmp_high w64 X Y 4 m zak hX hY hm (fun j h1 h2 => HALL.out j (by omega) h2) (by omega),if_pos h]
    have HC:=veil hc
    clear hc
    go_quiet (fail)
    go_wp2
    go_quiet ((go_at_call 134; exact quiet_more (compare_lt _ _ hlt _)))
    go_wp2
    go_ret
    rw [HC.out]
    exact ⟨rfl,zau (zau hbel _) _⟩
   ·
    have hne : (wd X m != wd Y m) = false:=by unfold wd; rw [h]; simp
    go_quiet (fail)
    go_wp2
    go_roundw
    case rel => exact ⟨m,by omega,by go_num,fun j h1 h2 => by
     by_cases e : j = m
     ·
      rw [e]; exact h
     ·
      exact HALL.out j (by omega) h2,zcd hRX _,zcd hRY _,zau hbel _⟩
    case measure => simp [intOf]
   ·
    have hlt:=wd_cmp h
    have hne : (wd X m != wd Y m) = true:=by rw [bne_iff_ne]; omega
    have hc : cmpN X Y = 1:=by rw [cmp_high w64 X Y 4 m zak hX hY hm (fun j h1 h2 => HALL.out j (by omega) h2) (by omega),if_neg (by omega)]
    have HC:=veil hc
    clear hc
    go_quiet (fail)
    go_wp2
    go_quiet ((go_at_call 134; exact quiet_more (compare_gt _ _ hlt _)))
    go_wp2
    go_ret
    rw [HC.out]
    exact ⟨rfl,zau (zau hbel _) _⟩
theorem ret_u2' {a b c d : Int} (h : a = b) (h2 : c = d) : Ending.returned (.tuple #[vI vU a,vI vU c]) = .returned (.tuple #[vI vU b,vI vU d]):=by rw [h,h2]
theorem gadd_core (x y c : Int) (hx : 0 ≤ x) (hx2 : x ≤ 18446744073709551615) (hy : 0 ≤ y) (hy2 : y ≤ 18446744073709551615) (hc : 0 ≤ c) (hc2 : c ≤ 1) (w : World) :
  Calls Tryz.prog 151 #[vI vU x,vI vU y,vI vU c] w fun e w' => e = .returned (.tuple #[vI vU ((x + y + c) % 18446744073709551616),vI vU ((x + y + c) / 18446744073709551616)]) ∧ w' = w:=by
 obtain ⟨s,hs⟩ : ∃ s,s = (x + y) % 18446744073709551616:=⟨_,rfl⟩
 obtain ⟨t,ht⟩ : ∃ t,t = (s + c) % 18446744073709551616:=⟨_,rfl⟩
 have e1 : IntKind.u64.wrap (x + y) = s:=by rw [IntKind.wrap_u64,hs]
 have e2 : IntKind.u64.wrap (s + c) = t:=by rw [IntKind.wrap_u64,ht]
 have et : t = (x + y + c) % 18446744073709551616:=by omega
 have E:=veil et
 by_cases h1 : s < x
 ·
  have h2 : ¬ t < s:=by omega
  have eo : (x + y + c) / 18446744073709551616 = 1:=by omega
  have EO:=veil eo
  clear et eo hs ht hx hx2 hy hy2 hc hc2
  go_enter Tryz.func151,Tryz.ntmps151
  go_wp2
  go_ret2
  rw [EO.out,← E.out]
  exact ⟨ret_u2' (by first | rfl | (rw [e1,e2]) | (rw [e2])) rfl,rfl⟩
 ·
  by_cases h2 : t < s
  ·
   have eo : (x + y + c) / 18446744073709551616 = 1:=by omega
   have EO:=veil eo
   clear et eo hs ht hx hx2 hy hy2 hc hc2
   go_enter Tryz.func151,Tryz.ntmps151
   go_wp2
   go_ret2
   rw [EO.out,← E.out]
   exact ⟨ret_u2' (by first | rfl | (rw [e1,e2]) | (rw [e2])) rfl,rfl⟩
  ·
   have eo : (x + y + c) / 18446744073709551616 = 0:=by omega
   have EO:=veil eo
   clear et eo hs ht hx hx2 hy hy2 hc hc2
   go_enter Tryz.func151,Tryz.ntmps151
   go_wp2
   go_ret2
   rw [EO.out,← E.out]
   exact ⟨ret_u2' (by first | rfl | (rw [e1,e2]) | (rw [e2])) rfl,rfl⟩
theorem gadd_at (X Y k : Nat) (w : World) :
  Calls Tryz.prog 151 #[vI vU (wd X k),vI vU (wd Y k),vI vU (cyI X Y k)] w fun e w' => e = .returned (.tuple #[vI vU (wd (X + Y) k),vI vU (cyI X Y (k + 1))]) ∧ w = w':=by
 have hc:=cy_le zak X Y k
 have h:=gadd_core (wd X k) (wd Y k) (cyI X Y k) (wd_lo _ _) (wd_le _ _) (wd_lo _ _) (wd_le _ _) (by unfold cyI; omega) (by unfold cyI; omega) w
 have e1 : (wd X k + wd Y k + cyI X Y k) % 18446744073709551616 = wd (X + Y) k:=by
  unfold wd cyI; rw [dg_add zak]; unfold w64; simp
 have e2 : (wd X k + wd Y k + cyI X Y k) / 18446744073709551616 = cyI X Y (k + 1):=by
  unfold wd cyI; rw [cy_succ zak]; unfold w64; simp
 rw [e1,e2] at h
 exact h.mono fun _ _ ⟨a,b⟩ => ⟨a,b.symm⟩
theorem row_mix {X Z k : Nat} (_hk : k < 4) : ∀ i,i < 4 → (if i = k then Value.int .u64 (wd Z k) else Value.int .u64 (if i < k then wd Z i else wd X i)) = Value.int .u64 (if i < k + 1 then wd Z i else wd X i):=by
 intro i _
 by_cases h : i = k
 ·
  subst h; simp
 ·
  rw [if_neg h]; by_cases h2 : i < k
  ·
   rw [if_pos h2,if_pos (by omega)]
  ·
   rw [if_neg h2,if_neg (by omega)]
theorem cyI_one {X Y : Nat} (hX : X < top) (hY : Y < top) : (cyI X Y 4 == 1) = decide (top ≤ X + Y):=by
 unfold cyI
 rw [cy_top (n:=4) hX hY]
 show _ = decide (w64 ^ 4 ≤ X + Y)
 by_cases h : w64 ^ 4 ≤ X + Y <;> simp [h]
theorem plus_any (X Y : Nat) (hX : X < top) (hY : Y < top) (w : World) :
  Calls Tryz.prog 121 #[.agg #[vI vU (wd X 0),vI vU (wd X 1),vI vU (wd X 2),vI vU (wd X 3)],.agg #[vI vU (wd Y 0),vI vU (wd Y 1),vI vU (wd Y 2),vI vU (wd Y 3)]] w fun e w' => e = .returned (.tuple #[.agg #[vI vU (wd (X + Y) 0),vI vU (wd (X + Y) 1),vI vU (wd (X + Y) 2),vI vU (wd (X + Y) 3)],.bool (decide (top ≤ X + Y))]) ∧ Below w.heap.size w w':=by
 have HG:=veil (fun (k : Nat) (W : World) => gadd_at X Y k W)
 go_enter Tryz.func121,Tryz.ntmps121
 go_wp2
 go_loopw [6,7] (fun c i wr => ∃ k : Nat,k ≤ 4 ∧ i = .int .i64 k ∧ c = .int .u64 (cyI X Y k) ∧ wr.rowIs w.heap.size 29 4 (fun j => .int .u64 (if j < k then wd (X + Y) j else wd X j))
   ∧ wr.rowIs (w.heap.size + 1) 29 4 (fun j => .int .u64 (wd Y j)) ∧ wr.rowIs (w.heap.size + 1 + 1) 29 4 (fun _ => .int .u64 0) ∧ Below w.heap.size w wr)
  (fun _ i _ => 4 - (intOf i).toNat)
 case atStart => exact ⟨0,by omega,rfl,by simp [cyI,cy_zero],(((zag (n:=4) (by simp) rfl (arr4 fun j => .int .u64 (wd X j))).alloc _).alloc _).congr (fun j _ => by simp),(zag (n:=4) (by simp) rfl (arr4 fun j => .int .u64 (wd Y j))).alloc _,zag (n:=4) (by simp) rfl (arr4 fun _ => .int .u64 0),(((Below.refl _ _).alloc (by simp) _).alloc (by simp) _).alloc (by simp; omega) _⟩
 case round =>
  obtain ⟨k,hk,rfl,rfl,hRX,hRY,hRZ,hbel⟩:=hrel
  by_cases hlt : k < 4
  ·
   have c1:=hRX.cell hlt
   have c2:=hRY.cell hlt
   have f1:=hRX.frozen k
   rw [if_neg (by omega)] at c1
   go_wp2
   go_region_with (go_at_call 151; refine (HG.out _ _).mono ?_; rintro e w' ⟨rfl,rfl⟩)
   all_goals
    go_wp2
    go_roundw
    case rel => exact ⟨k + 1,by omega,by go_num,rfl,((hRX.set k _).congr (row_mix hlt)).drew,(zar hRY (by omega) _).drew,(zar hRZ (by omega) _).drew,(zaf hbel (by omega) _).drew⟩
    case measure => simp [intOf]; omega
  ·
   obtain rfl : k = 4:=by omega
   obtain ⟨c0,c1,c2,c3⟩:=zaj hRX
   obtain ⟨d0,d1,d2,d3⟩:=zaj hRZ
   obtain ⟨f0,f1,f2,f3⟩:=zbm hRZ
   simp only [show (0 : Nat) < 4 from by omega,show (1 : Nat) < 4 from by omega,show (2 : Nat) < 4 from by omega,show (3 : Nat) < 4 from by omega,if_true] at c0 c1 c2 c3
   have hz:=cyI_one hX hY
   clear hRX hRY
   go_wp2
   refine bodyPost_ret (zcf rfl _ _ (w.heap.size + 1 + 1) 29 #[vI vU (wd (X + Y) 0),vI vU (wd (X + Y) 1),vI vU (wd (X + Y) 2),vI vU (wd (X + Y) 3)] (0,0) 4 27 rfl (blk4 (put4 hRZ fun j => .int .u64 (wd (X + Y) j))) Tryz.underlying29 (by kernel_rfl)) rfl ⟨?_,zax hbel (by omega) _ _ _ _⟩
   rfl
theorem zic (X Y : Nat) (hX : X < top) (hY : Y < top) (w : World) :
  Calls Tryz.prog 121 #[.agg #[vI vU (wd X 0),vI vU (wd X 1),vI vU (wd X 2),vI vU (wd X 3)],.agg #[vI vU (wd Y 0),vI vU (wd Y 1),vI vU (wd Y 2),vI vU (wd Y 3)]] w fun e w' => e = .returned (.tuple #[.agg #[vI vU (wd ((X + Y) % top) 0),vI vU (wd ((X + Y) % top) 1),vI vU (wd ((X + Y) % top) 2),vI vU (wd ((X + Y) % top) 3)],.bool (decide (top ≤ X + Y))]) ∧ Below w.heap.size w w':=by
 rw [zea _ 0 (by omega),zea _ 1 (by omega),zea _ 2 (by omega),zea _ 3 (by omega)]
 exact plus_any X Y hX hY w
theorem lt_high {X Y m : Nat} (hX : X < top) (hY : Y < top) (hm : m < 4) (h : ∀ j,m < j → j < 4 → dg w64 X j = dg w64 Y j) (hne : dg w64 X m ≠ dg w64 Y m) : decide (X < Y) = decide (wd X m < wd Y m):=by
 have hc:=cmp_high w64 X Y 4 m zak hX hY hm h hne
 unfold cmpN at hc
 unfold wd
 by_cases h1 : dg w64 X m < dg w64 Y m
 ·
  rw [if_pos h1] at hc
  by_cases h2 : X < Y
  ·
   simp [h1,h2]
  ·
   rw [if_neg h2] at hc; split at hc <;> omega
 ·
  rw [if_neg h1] at hc
  by_cases h2 : X < Y
  ·
   rw [if_pos h2] at hc; omega
  ·
   simp [h1,h2]
theorem less_calls (X Y : Nat) (hX : X < top) (hY : Y < top) (w : World) :
  Calls Tryz.prog 89 #[.agg #[vI vU (wd X 0),vI vU (wd X 1),vI vU (wd X 2),vI vU (wd X 3)],.agg #[vI vU (wd Y 0),vI vU (wd Y 1),vI vU (wd Y 2),vI vU (wd Y 3)]] w fun e w' => e = .returned (.bool (decide (X < Y))) ∧ Below w.heap.size w w':=by
 go_enter Tryz.func89,Tryz.ntmps89
 go_wp2
 go_loopw [5] (fun i wr => ∃ k : Nat,k ≤ 4 ∧ i = .int .i64 ((k : Int) - 1) ∧ (∀ j,k ≤ j → j < 4 → dg w64 X j = dg w64 Y j) ∧ wr.rowIs w.heap.size 29 4 (fun j => .int .u64 (wd X j))
   ∧ wr.rowIs (w.heap.size + 1) 29 4 (fun j => .int .u64 (wd Y j)) ∧ Below w.heap.size w wr)
  (fun i _ => (intOf i + 1).toNat)
 case atStart => exact ⟨4,by omega,rfl,by intro j h1 h2; omega,(zag (n:=4) (by simp) rfl (arr4 fun j => .int .u64 (wd X j))).alloc _,zag (n:=4) (by simp) rfl (arr4 fun j => .int .u64 (wd Y j)),((Below.refl _ _).alloc (by simp) _).alloc (by simp) _⟩
 case round =>
  obtain ⟨k,hk,hi,hall,hRX,hRY,hbel⟩:=hrel
  have HALL:=veil hall
  clear hall
  cases k with
  | zero =>
   subst hi
   have hXY : X = Y:=zgu zak hX hY fun j hj => HALL.out j (Nat.zero_le _) hj
   have HXY:=veil hXY
   clear hXY
   go_wp2
   go_ret
   rw [show decide (X < Y) = false by rw [HXY.out]; simp]
   exact ⟨rfl,hbel⟩
  | succ m =>
   obtain rfl : _ = Value.int .i64 (m : Int):=hi.trans (by congr 1; omega)
   have hm : m < 4:=by omega
   go_wp2
   have c1:=hRX.cell hm
   have c2:=hRY.cell hm
   by_cases h : dg w64 X m = dg w64 Y m
   ·
    have hne : (wd X m != wd Y m) = false:=by unfold wd; rw [h]; simp
    go_quiet (fail)
    go_wp2
    go_roundw
    case rel => exact ⟨m,by omega,by go_num,fun j h1 h2 => by
     by_cases e : j = m
     ·
      rw [e]; exact h
     ·
      exact HALL.out j (by omega) h2,zcd hRX _,zcd hRY _,zau hbel _⟩
    case measure => simp [intOf]
   ·
    have hne : (wd X m != wd Y m) = true:=by rw [bne_iff_ne]; unfold wd; omega
    have HC:=veil (lt_high hX hY hm (fun j h1 h2 => HALL.out j (by omega) h2) h)
    clear h
    go_quiet (fail)
    go_wp2
    go_quiet (fail)
    go_wp2
    go_ret
    rw [HC.out]
    exact ⟨rfl,zau (zau hbel _) _⟩
theorem dg_ones {B : Nat} (hB : 0 < B) (n i : Nat) (hi : i < n) : dg B (B ^ n - 1) i = B - 1:=by
 obtain ⟨d,rfl⟩ : ∃ d,n = i + (d + 1):=⟨n - i - 1,by omega⟩
 have hp : 0 < B ^ i:=Nat.pow_pos hB
 have hd : 0 < B ^ d:=Nat.pow_pos hB
 have e : B ^ (i + (d + 1)) - 1 = (B ^ i - 1) + B ^ i * (B ^ (d + 1) - 1):=by
  rw [Nat.pow_add,Nat.mul_sub,Nat.mul_one]
  have : B ^ i ≤ B ^ i * B ^ (d + 1):=Nat.le_mul_of_pos_right _ (Nat.pow_pos hB)
  omega
 have e2 : B ^ (d + 1) - 1 = (B - 1) + B * (B ^ d - 1):=by
  rw [Nat.pow_succ,Nat.mul_comm,Nat.mul_sub,Nat.mul_one]
  have : B ≤ B * B ^ d:=Nat.le_mul_of_pos_right _ hd
  omega
 unfold dg
 rw [e,Nat.add_mul_div_left _ _ hp,Nat.div_eq_of_lt (by omega),Nat.zero_add,e2,Nat.add_mul_mod_self_left,Nat.mod_eq_of_lt (by omega)]
theorem dg_comp {B : Nat} (hB : 0 < B) (Y n i : Nat) (hi : i < n) (hY : Y < B ^ n) : dg B (B ^ n - 1 - Y) i = B - 1 - dg B Y i:=by
 have h:=dg_sub hB (B ^ n - 1) Y n i hi (Nat.le_of_lt hY)
 have e : dg B (B ^ n - 1 + B ^ n - Y) i = dg B (B ^ n - 1 - Y) i:=by
  rw [show B ^ n - 1 + B ^ n - Y = (B ^ n - 1 - Y) + B ^ n by omega,← zck _ n i hi,Nat.add_mod_right,zck _ n i hi]
 have hb : bw B (B ^ n - 1) Y i = 0:=by
  have hp : 0 < B ^ i:=Nat.pow_pos hB
  unfold bw
  have e2 : (B ^ n - 1) % B ^ i = B ^ i - 1:=by
   obtain ⟨d,rfl⟩ : ∃ d,n = i + d:=⟨n - i,by omega⟩
   have : B ^ i ≤ B ^ i * B ^ d:=Nat.le_mul_of_pos_right _ (Nat.pow_pos hB)
   rw [Nat.pow_add,show B ^ i * B ^ d - 1 = (B ^ i - 1) + B ^ i * (B ^ d - 1) by rw [Nat.mul_sub,Nat.mul_one]; omega,Nat.add_mul_mod_self_left,Nat.mod_eq_of_lt (by omega)]
  have h1:=Nat.mod_lt Y hp
  rw [e2,if_neg (by omega)]
 have hl:=dg_lt hB Y i
 rw [e,hb,dg_ones hB n i hi] at h
 rw [h,Nat.mod_eq_sub_mod (by omega),Nat.mod_eq_of_lt (by omega)]
 omega
theorem wd_comp {Y i : Nat} (hY : Y < top) (hi : i < 4) : 18446744073709551615 - wd Y i = wd (top - 1 - Y) i:=by
 have h:=dg_comp zak Y 4 i hi hY
 have hl:=dg_lt zak Y i
 unfold wd top
 rw [h]
 unfold w64 at *
 omega
theorem minus_num {X Y : Nat} (hY : Y < top) : ((X + (top - 1 - Y)) % top + 1) % top = (X + top - Y) % top:=by
 rw [Nat.mod_add_mod,show X + (top - 1 - Y) + 1 = X + top - Y by omega]
theorem not_run {Y i : Nat} (hY : Y < top) (hi : i < 4) {T : TypeId} {A B : Operand} (W : World) : (binK .sub T A B (.int .u64 18446744073709551615) (.int .u64 (wd Y i))).run Tryz.prog W = .ok (.int .u64 (wd (top - 1 - Y) i)) W:=by
 have h0:=wd_lo Y i
 have h1:=wd_le Y i
 unfold binK
 rw [← wd_comp hY hi]
 simp [go_sem,eqGuard]
 exact IntWalk.u64_in _ (by omega)
section
variable {w0 : World} {Post : Value → World → Prop} {J : World → Prop}
def iNot {Y : Nat} (hY : Y < top) (i : Nat) (hi : i < 4) (r : OT Tryz.prog w0 Post J) : OT Tryz.prog w0 Post J :=
 .ins 16 (binK .sub 27 (.const (.int .u64 18446744073709551615)) (.tmp 15) (.int .u64 18446744073709551615) (.int .u64 (wd Y i))) (.int .u64 (wd (top - 1 - Y) i)) (fun W _ => not_run hY hi W) r
end
theorem minus_calls (X Y : Nat) (hX : X < top) (hY : Y < top) (w : World) :
  Calls Tryz.prog 90 #[.agg #[vI vU (wd X 0),vI vU (wd X 1),vI vU (wd X 2),vI vU (wd X 3)],.agg #[vI vU (wd Y 0),vI vU (wd Y 1),vI vU (wd Y 2),vI vU (wd Y 3)]] w fun e w' => e = .returned (.agg #[vI vU (wd ((X + top - Y) % top) 0),vI vU (wd ((X + top - Y) % top) 1),vI vU (wd ((X + top - Y) % top) 2),vI vU (wd ((X + top - Y) % top) 3)]) ∧ Below w.heap.size w w' :=
 have k:=zic X (top - 1 - Y) hX (by omega)
 have k2:=zic ((X + (top - 1 - Y)) % top) 1 (Nat.mod_lt _ zbk) (by decide)
 way1 Tryz.func90 [.agg #[vI vU (wd X 0),vI vU (wd X 1),vI vU (wd X 2),vI vU (wd X 3)],.agg #[vI vU (wd Y 0),vI vU (wd Y 1),vI vU (wd Y 2),vI vU (wd Y 3)]] (.unroll 5 <| iNot hY 0 (by decide) <| iNot hY 1 (by decide) <| iNot hY 2 (by decide) <| iNot hY 3 (by decide) <|
  .call _ _ _ (fun W _ => k W) <| .call _ _ _ (fun W _ => k2 W) <| .ret (.agg #[vI vU (wd (((X + (top - 1 - Y)) % top + 1) % top) 0),vI vU (wd (((X + (top - 1 - Y)) % top + 1) % top) 1),vI vU (wd (((X + (top - 1 - Y)) % top + 1) % top) 2),vI vU (wd (((X + (top - 1 - Y)) % top + 1) % top) 3)]) fun _ h => ⟨by rw [minus_num hY],h⟩) (by kernel_rfl)
theorem gsum_num {X Y M : Nat} (hX : X < M) (hY : Y < M) (hM : M ≤ top) : (X + Y) % M = if top ≤ X + Y ∨ ¬ (X + Y) % top < M then ((X + Y) % top + top - M) % top else (X + Y) % top:=by
 generalize top = t at *
 by_cases h : t ≤ X + Y
 ·
  rw [if_pos (Or.inl h),Nat.mod_eq_sub_mod (show t ≤ X + Y from h),Nat.mod_eq_of_lt (show X + Y - t < t by omega),show X + Y - t + t - M = X + Y - M by omega,Nat.mod_eq_of_lt (show X + Y - M < t by omega)]
  rw [Nat.mod_eq_sub_mod (by omega),Nat.mod_eq_of_lt (by omega)]
 ·
  rw [Nat.mod_eq_of_lt (show X + Y < t by omega)]
  by_cases h2 : X + Y < M
  ·
   rw [if_neg (by omega),Nat.mod_eq_of_lt h2]
  ·
   rw [if_pos (Or.inr h2),Nat.mod_eq_sub_mod (show M ≤ X + Y by omega),Nat.mod_eq_of_lt (show X + Y - M < M by omega),show X + Y + t - M = (X + Y - M) + t by omega,Nat.add_mod_right,Nat.mod_eq_of_lt (by omega)]
theorem zhh (X Y Z : Nat) (u : Bool) (h : (X + Y) % top = Z) (h2 : decide (top ≤ X + Y) = u) (hX : X < top) (hY : Y < top) (w : World) :
  Calls Tryz.prog 121 #[.agg #[vI vU (wd X 0),vI vU (wd X 1),vI vU (wd X 2),vI vU (wd X 3)],.agg #[vI vU (wd Y 0),vI vU (wd Y 1),vI vU (wd Y 2),vI vU (wd Y 3)]] w fun e w' => e = .returned (.tuple #[.agg #[vI vU (wd Z 0),vI vU (wd Z 1),vI vU (wd Z 2),vI vU (wd Z 3)],.bool u]) ∧ Below w.heap.size w w':=by
 subst h; subst h2; exact zic X Y hX hY w
theorem zfc (X Y : Nat) (u : Bool) (h : decide (X < Y) = u) (hX : X < top) (hY : Y < top) (w : World) :
  Calls Tryz.prog 89 #[.agg #[vI vU (wd X 0),vI vU (wd X 1),vI vU (wd X 2),vI vU (wd X 3)],.agg #[vI vU (wd Y 0),vI vU (wd Y 1),vI vU (wd Y 2),vI vU (wd Y 3)]] w fun e w' => e = .returned (.bool u) ∧ Below w.heap.size w w':=by
 subst h; exact less_calls X Y hX hY w
theorem zfp (X Y Z : Nat) (h : (X + top - Y) % top = Z) (hX : X < top) (hY : Y < top) (w : World) :
  Calls Tryz.prog 90 #[.agg #[vI vU (wd X 0),vI vU (wd X 1),vI vU (wd X 2),vI vU (wd X 3)],.agg #[vI vU (wd Y 0),vI vU (wd Y 1),vI vU (wd Y 2),vI vU (wd Y 3)]] w fun e w' => e = .returned (.agg #[vI vU (wd Z 0),vI vU (wd Z 1),vI vU (wd Z 2),vI vU (wd Z 3)]) ∧ Below w.heap.size w w':=by
 subst h; exact minus_calls X Y hX hY w
theorem gadd_over (X Y M S D : Nat) (hX : X < top) (hY : Y < top) (hM : M < top) (hS : (X + Y) % top = S) (hu : decide (top ≤ X + Y) = true) (hD : (S + top - M) % top = D) (w : World) :
  Calls Tryz.prog 68 #[.agg #[vI vU (wd X 0),vI vU (wd X 1),vI vU (wd X 2),vI vU (wd X 3)],.agg #[vI vU (wd Y 0),vI vU (wd Y 1),vI vU (wd Y 2),vI vU (wd Y 3)],.agg #[vI vU (wd M 0),vI vU (wd M 1),vI vU (wd M 2),vI vU (wd M 3)]] w fun e w' => e = .returned (.agg #[vI vU (wd D 0),vI vU (wd D 1),vI vU (wd D 2),vI vU (wd D 3)]) ∧ Below w.heap.size w w':=by
 have k:=veil (And.intro (fun W => zhh X Y S true hS hu hX hY W) (fun W => zfp S M D hD (by rw [← hS]; exact Nat.mod_lt _ zbk) hM W))
 clear hX hY hM hS hu hD
 exact way1 Tryz.func68 [.agg #[vI vU (wd X 0),vI vU (wd X 1),vI vU (wd X 2),vI vU (wd X 3)],.agg #[vI vU (wd Y 0),vI vU (wd Y 1),vI vU (wd Y 2),vI vU (wd Y 3)],.agg #[vI vU (wd M 0),vI vU (wd M 1),vI vU (wd M 2),vI vU (wd M 3)]] (.call _ _ _ (fun W _ => k.out.1 W) <| .call _ _ _ (fun W _ => k.out.2 W) <| .ret _ fun _ h => ⟨rfl,h⟩) (by kernel_rfl)
theorem gadd_less (X Y M S : Nat) (hX : X < top) (hY : Y < top) (hM : M < top) (hS : (X + Y) % top = S) (hu : decide (top ≤ X + Y) = false) (hl : decide (S < M) = true) (w : World) :
  Calls Tryz.prog 68 #[.agg #[vI vU (wd X 0),vI vU (wd X 1),vI vU (wd X 2),vI vU (wd X 3)],.agg #[vI vU (wd Y 0),vI vU (wd Y 1),vI vU (wd Y 2),vI vU (wd Y 3)],.agg #[vI vU (wd M 0),vI vU (wd M 1),vI vU (wd M 2),vI vU (wd M 3)]] w fun e w' => e = .returned (.agg #[vI vU (wd S 0),vI vU (wd S 1),vI vU (wd S 2),vI vU (wd S 3)]) ∧ Below w.heap.size w w':=by
 have k:=veil (And.intro (fun W => zhh X Y S false hS hu hX hY W) (fun W => zfc S M true hl (by rw [← hS]; exact Nat.mod_lt _ zbk) hM W))
 clear hX hY hM hS hu hl
 exact way1 Tryz.func68 [.agg #[vI vU (wd X 0),vI vU (wd X 1),vI vU (wd X 2),vI vU (wd X 3)],.agg #[vI vU (wd Y 0),vI vU (wd Y 1),vI vU (wd Y 2),vI vU (wd Y 3)],.agg #[vI vU (wd M 0),vI vU (wd M 1),vI vU (wd M 2),vI vU (wd M 3)]] (.call _ _ _ (fun W _ => k.out.1 W) <| .call _ _ _ (fun W _ => k.out.2 W) <| .ret _ fun _ h => ⟨rfl,h⟩) (by kernel_rfl)
theorem gadd_more (X Y M S D : Nat) (hX : X < top) (hY : Y < top) (hM : M < top) (hS : (X + Y) % top = S) (hu : decide (top ≤ X + Y) = false) (hl : decide (S < M) = false) (hD : (S + top - M) % top = D) (w : World) :
  Calls Tryz.prog 68 #[.agg #[vI vU (wd X 0),vI vU (wd X 1),vI vU (wd X 2),vI vU (wd X 3)],.agg #[vI vU (wd Y 0),vI vU (wd Y 1),vI vU (wd Y 2),vI vU (wd Y 3)],.agg #[vI vU (wd M 0),vI vU (wd M 1),vI vU (wd M 2),vI vU (wd M 3)]] w fun e w' => e = .returned (.agg #[vI vU (wd D 0),vI vU (wd D 1),vI vU (wd D 2),vI vU (wd D 3)]) ∧ Below w.heap.size w w':=by
 have hSt : S < top:=by rw [← hS]; exact Nat.mod_lt _ zbk
 have k:=veil (And.intro (fun W => zhh X Y S false hS hu hX hY W) (And.intro (fun W => zfc S M false hl hSt hM W) (fun W => zfp S M D hD hSt hM W)))
 clear hX hY hM hS hu hl hSt hD
 exact way1 Tryz.func68 [.agg #[vI vU (wd X 0),vI vU (wd X 1),vI vU (wd X 2),vI vU (wd X 3)],.agg #[vI vU (wd Y 0),vI vU (wd Y 1),vI vU (wd Y 2),vI vU (wd Y 3)],.agg #[vI vU (wd M 0),vI vU (wd M 1),vI vU (wd M 2),vI vU (wd M 3)]] (.call _ _ _ (fun W _ => k.out.1 W) <| .call _ _ _ (fun W _ => k.out.2.1 W) <| .call _ _ _ (fun W _ => k.out.2.2 W) <| .ret _ fun _ h => ⟨rfl,h⟩) (by kernel_rfl)
theorem zim (X Y M : Nat) (hX : X < M) (hY : Y < M) (hM : M < top) (w : World) :
  Calls Tryz.prog 68 #[.agg #[vI vU (wd X 0),vI vU (wd X 1),vI vU (wd X 2),vI vU (wd X 3)],.agg #[vI vU (wd Y 0),vI vU (wd Y 1),vI vU (wd Y 2),vI vU (wd Y 3)],.agg #[vI vU (wd M 0),vI vU (wd M 1),vI vU (wd M 2),vI vU (wd M 3)]] w fun e w' => e = .returned (.agg #[vI vU (wd ((X + Y) % M) 0),vI vU (wd ((X + Y) % M) 1),vI vU (wd ((X + Y) % M) 2),vI vU (wd ((X + Y) % M) 3)]) ∧ Below w.heap.size w w':=by
 have h:=gsum_num hX hY (Nat.le_of_lt hM)
 by_cases h1 : top ≤ X + Y
 ·
  rw [h,if_pos (Or.inl h1)]
  exact gadd_over X Y M _ _ (by omega) (by omega) hM rfl (by simpa using h1) rfl w
 ·
  by_cases h2 : (X + Y) % top < M
  ·
   rw [h,if_neg (by omega)]
   exact gadd_less X Y M _ (by omega) (by omega) hM rfl (by simpa using h1) (by simpa using h2) w
  ·
   rw [h,if_pos (Or.inr h2)]
   exact gadd_more X Y M _ _ (by omega) (by omega) hM rfl (by simpa using h1) (by simpa using h2) rfl w
theorem gsub_lo (X Y M D S : Nat) (hX : X < top) (hY : Y < top) (hM : M < top) (hl : decide (X < Y) = true) (hD : (X + top - Y) % top = D) (hS : (D + M) % top = S) (w : World) :
  Calls Tryz.prog 91 #[.agg #[vI vU (wd X 0),vI vU (wd X 1),vI vU (wd X 2),vI vU (wd X 3)],.agg #[vI vU (wd Y 0),vI vU (wd Y 1),vI vU (wd Y 2),vI vU (wd Y 3)],.agg #[vI vU (wd M 0),vI vU (wd M 1),vI vU (wd M 2),vI vU (wd M 3)]] w fun e w' => e = .returned (.agg #[vI vU (wd S 0),vI vU (wd S 1),vI vU (wd S 2),vI vU (wd S 3)]) ∧ Below w.heap.size w w':=by
 have k:=veil (And.intro (fun W => zfc X Y true hl hX hY W) (And.intro (fun W => zfp X Y D hD hX hY W) (fun W => zhh D M S _ hS rfl (by rw [← hD]; exact Nat.mod_lt _ zbk) hM W)))
 clear hX hY hM hl hD hS
 exact way1 Tryz.func91 [.agg #[vI vU (wd X 0),vI vU (wd X 1),vI vU (wd X 2),vI vU (wd X 3)],.agg #[vI vU (wd Y 0),vI vU (wd Y 1),vI vU (wd Y 2),vI vU (wd Y 3)],.agg #[vI vU (wd M 0),vI vU (wd M 1),vI vU (wd M 2),vI vU (wd M 3)]] (.call _ _ _ (fun W _ => k.out.1 W) <| .call _ _ _ (fun W _ => k.out.2.1 W) <| .call _ _ _ (fun W _ => k.out.2.2 W) <| .ret _ fun _ h => ⟨rfl,h⟩) (by kernel_rfl)
theorem gsub_hi (X Y M D : Nat) (hX : X < top) (hY : Y < top) (hl : decide (X < Y) = false) (hD : (X + top - Y) % top = D) (w : World) :
  Calls Tryz.prog 91 #[.agg #[vI vU (wd X 0),vI vU (wd X 1),vI vU (wd X 2),vI vU (wd X 3)],.agg #[vI vU (wd Y 0),vI vU (wd Y 1),vI vU (wd Y 2),vI vU (wd Y 3)],.agg #[vI vU (wd M 0),vI vU (wd M 1),vI vU (wd M 2),vI vU (wd M 3)]] w fun e w' => e = .returned (.agg #[vI vU (wd D 0),vI vU (wd D 1),vI vU (wd D 2),vI vU (wd D 3)]) ∧ Below w.heap.size w w':=by
 have k:=veil (And.intro (fun W => zfc X Y false hl hX hY W) (fun W => zfp X Y D hD hX hY W))
 clear hX hY hl hD
 exact way1 Tryz.func91 [.agg #[vI vU (wd X 0),vI vU (wd X 1),vI vU (wd X 2),vI vU (wd X 3)],.agg #[vI vU (wd Y 0),vI vU (wd Y 1),vI vU (wd Y 2),vI vU (wd Y 3)],.agg #[vI vU (wd M 0),vI vU (wd M 1),vI vU (wd M 2),vI vU (wd M 3)]] (.call _ _ _ (fun W _ => k.out.1 W) <| .call _ _ _ (fun W _ => k.out.2 W) <| .ret _ fun _ h => ⟨rfl,h⟩) (by kernel_rfl)
theorem zik (X Y M : Nat) (hX : X < M) (hY : Y < M) (hM : M < top) (w : World) :
  Calls Tryz.prog 91 #[.agg #[vI vU (wd X 0),vI vU (wd X 1),vI vU (wd X 2),vI vU (wd X 3)],.agg #[vI vU (wd Y 0),vI vU (wd Y 1),vI vU (wd Y 2),vI vU (wd Y 3)],.agg #[vI vU (wd M 0),vI vU (wd M 1),vI vU (wd M 2),vI vU (wd M 3)]] w fun e w' => e = .returned (.agg #[vI vU (wd ((X + M - Y) % M) 0),vI vU (wd ((X + M - Y) % M) 1),vI vU (wd ((X + M - Y) % M) 2),vI vU (wd ((X + M - Y) % M) 3)]) ∧ Below w.heap.size w w':=by
 by_cases h : X < Y
 ·
  exact gsub_lo X Y M _ _ (by omega) (by omega) hM (by simpa using h) rfl (by rw [Nat.mod_eq_of_lt (a:=X + top - Y) (by omega),show X + top - Y + M = (X + M - Y) + top by omega,Nat.add_mod_right,Nat.mod_eq_of_lt (by omega),Nat.mod_eq_of_lt (by omega)]) w
 ·
  exact gsub_hi X Y M _ (by omega) (by omega) (by simpa using h) (by rw [show X + top - Y = (X - Y) + top by omega,Nat.add_mod_right,show X + M - Y = (X - Y) + M by omega,Nat.add_mod_right,Nat.mod_eq_of_lt (by omega),Nat.mod_eq_of_lt (by omega)]) w
def mw (Y i k : Nat) : Nat:=dg w64 Y i * 2 ^ k % 2 ^ 64
theorem mw_zero (Y i : Nat) : mw Y i 0 = dg w64 Y i:=by
 have:=dg_lt zak Y i
 unfold mw; rw [Nat.pow_zero,Nat.mul_one]; exact Nat.mod_eq_of_lt this
theorem mw_succ (Y i k : Nat) : (mw Y i k + mw Y i k) % 18446744073709551616 = mw Y i (k + 1):=by
 unfold mw
 show _ % 2 ^ 64 = _
 rw [← Nat.add_mod,Nat.pow_succ 2 k,← Nat.mul_assoc,Nat.mul_two]
theorem mw_top (Y i k : Nat) (hk : k < 64) : 9223372036854775808 ≤ mw Y i k ↔ Y / 2 ^ (64 * i + (63 - k)) % 2 = 1:=by
 unfold mw dg
 obtain ⟨j,hj⟩ : ∃ j,j = 63 - k:=⟨_,rfl⟩
 have e64 : (2 : Nat) ^ 64 = 2 ^ (j + 1) * 2 ^ k:=by rw [← Nat.pow_add]; congr 1; omega
 have e63 : (9223372036854775808 : Nat) = 2 ^ j * 2 ^ k:=by rw [← Nat.pow_add,show j + k = 63 by omega]
 have hp : 0 < 2 ^ k:=Nat.pow_pos (by omega)
 have hq : 0 < 2 ^ j:=Nat.pow_pos (by omega)
 have ew : w64 ^ i = 2 ^ (64 * i):=by unfold w64; rw [show (18446744073709551616 : Nat) = 2 ^ 64 from rfl,← Nat.pow_mul]
 rw [ew,← hj,e64,e63,Nat.mul_mod_mul_right]
 rw [Nat.pow_add 2 (64 * i),← Nat.div_div_eq_div_mul]
 generalize Y / 2 ^ (64 * i) = a
 have h1 : a % w64 % 2 ^ (j + 1) = a % 2 ^ (j + 1):=by
  apply Nat.mod_mod_of_dvd
  unfold w64; rw [show (18446744073709551616 : Nat) = 2 ^ (j + 1) * 2 ^ k from e64]
  exact Nat.dvd_mul_right _ _
 rw [h1,Nat.pow_succ,Nat.mod_mul]
 have h2:=Nat.mod_lt a hq
 generalize a / 2 ^ j = c
 generalize a % 2 ^ j = d at *
 generalize 2 ^ j = p at *
 generalize 2 ^ k = q at *
 constructor
 ·
  intro h
  have h3:=Nat.le_of_mul_le_mul_right h hp
  have : c % 2 = 0 ∨ c % 2 = 1:=by omega
  rcases this with e | e
  ·
   rw [e] at h3; omega
  ·
   exact e
 ·
  intro h
  rw [h]
  exact Nat.mul_le_mul_right _ (by omega)
theorem bits_step (Y n : Nat) : Y / 2 ^ n = 2 * (Y / 2 ^ (n + 1)) + Y / 2 ^ n % 2:=by
 rw [Nat.pow_succ,← Nat.div_div_eq_div_mul]; omega
def acc (X Y M n : Nat) : Nat:=X * (Y / 2 ^ n) % M
theorem acc_lt {X Y M n : Nat} (h : 0 < M) : acc X Y M n < M:=Nat.mod_lt _ h
theorem acc_twice (X Y M n : Nat) (h : Y / 2 ^ n % 2 = 0) : (acc X Y M (n + 1) + acc X Y M (n + 1)) % M = acc X Y M n:=by
 unfold acc
 rw [bits_step Y n,h,← Nat.add_mod]
 congr 1
 generalize Y / 2 ^ (n + 1) = q
 rw [Nat.add_zero,Nat.mul_left_comm]; omega
theorem acc_more (X Y M n : Nat) (h : Y / 2 ^ n % 2 = 1) : ((acc X Y M (n + 1) + acc X Y M (n + 1)) % M + X) % M = acc X Y M n:=by
 unfold acc
 rw [bits_step Y n,h,← Nat.add_mod,Nat.mod_add_mod]
 congr 1
 rw [Nat.mul_add,Nat.mul_left_comm,Nat.mul_one]; omega
theorem acc_start (X Y M n : Nat) (h : Y < 2 ^ n) : acc X Y M n = 0:=by
 unfold acc; rw [Nat.div_eq_of_lt h]; simp
theorem acc_end (X Y M : Nat) : acc X Y M 0 = X * Y % M:=by
 unfold acc; simp
theorem num_wide (X : Nat) (h : X < top) : wd X 4 = 0 ∧ wd X 5 = 0 ∧ wd X 6 = 0 ∧ wd X 7 = 0:=by
 have e : ∀ i,4 ≤ i → wd X i = 0:=by
  intro i hi
  unfold wd dg
  rw [Nat.div_eq_of_lt (Nat.lt_of_lt_of_le h (Nat.pow_le_pow_right zak hi))]; rfl
 exact ⟨e 4 (by omega),e 5 (by omega),e 6 (by omega),e 7 (by omega)⟩
theorem gword_more {X Y M k a b c : Nat} (h : a ≤ 64 ∧ b = mw Y k a ∧ c = acc X Y M (64 * (k + 1) - a)) (hl : a < 64) (hb : 9223372036854775808 ≤ b) :
  a + 1 ≤ 64 ∧ (b + b) % 18446744073709551616 = mw Y k (a + 1) ∧ ((c + c) % M + X) % M = acc X Y M (64 * (k + 1) - (a + 1)):=by
 obtain ⟨_,rfl,rfl⟩:=h
 refine ⟨hl,mw_succ Y k a,?_⟩
 rw [show 64 * (k + 1) - a = 64 * k + (63 - a) + 1 by omega,show 64 * (k + 1) - (a + 1) = 64 * k + (63 - a) by omega]
 exact acc_more X Y M _ ((mw_top Y k a hl).1 hb)
theorem gword_less {X Y M k a b c : Nat} (h : a ≤ 64 ∧ b = mw Y k a ∧ c = acc X Y M (64 * (k + 1) - a)) (hl : a < 64) (hb : ¬ 9223372036854775808 ≤ b) :
  a + 1 ≤ 64 ∧ (b + b) % 18446744073709551616 = mw Y k (a + 1) ∧ (c + c) % M = acc X Y M (64 * (k + 1) - (a + 1)):=by
 obtain ⟨_,rfl,rfl⟩:=h
 refine ⟨hl,mw_succ Y k a,?_⟩
 rw [show 64 * (k + 1) - a = 64 * k + (63 - a) + 1 by omega,show 64 * (k + 1) - (a + 1) = 64 * k + (63 - a) by omega]
 exact acc_twice X Y M _ ((Nat.mod_two_eq_zero_or_one _).resolve_right fun e => hb ((mw_top Y k a hl).2 e))
section
variable {w0 : World} {Post : Value → World → Prop} {J : World → Prop}
def gword (d wv kv : Nat) (T0 : List (Nat × SV)) (M0 : Nat → List Blk) (X Y M k : Nat) (hX : X < M) (hM : M < top) (V : Nat) (hV : V = acc X Y M (64 * (k + 1))) (r : ∀ V,V = acc X Y M (64 * k) → OT Tryz.prog w0 Post J) : OT Tryz.prog w0 Post J :=
 .loop (fun l => (wv,.v (.int .u64 (l 1 : Int))) :: (kv,.v (.int .i64 (l 0 : Int))) :: T0) (fun l => M0 (l 2)) (fun l => 64 - l 0) (fun l => l 0 ≤ 64 ∧ l 1 = mw Y k (l 0) ∧ l 2 = acc X Y M (64 * (k + 1) - l 0)) (lst [0,dg w64 Y k,V])
  ⟨Nat.zero_le _,(mw_zero Y k).symm,hV⟩ fun l h =>
 .cases (l 0 < 64)
  (fun hl => .ins (19 + d) (binK .lss 3 (.tmp (18 + d)) (.const (.int .i64 64)) (.int .i64 (l 0 : Int)) (.int .i64 64)) (.bool true) (fun _ _ => lssi_run (by omega)) <|
   .call _ _ _ (fun W _ => zim (l 2) (l 2) M (by rw [h.2.2]; exact acc_lt (by omega)) (by rw [h.2.2]; exact acc_lt (by omega)) hM W) <|
   .cases (9223372036854775808 ≤ l 1)
    (fun hb => .ins (27 + d) (binK .geq 27 (.tmp (26 + d)) (.const (.int .u64 9223372036854775808)) (.int .u64 (l 1 : Int)) (.int .u64 9223372036854775808)) (.bool true) (fun _ _ => high_run (decide_eq_true hb)) <|
     .call _ _ _ (fun W _ => zim ((l 2 + l 2) % M) X M (Nat.mod_lt _ (by omega)) hX hM W) <|
     .ins (34 + d) (binK .add 27 (.tmp (32 + d)) (.tmp (33 + d)) (.int .u64 (l 1 : Int)) (.int .u64 (l 1 : Int))) (.int .u64 (((l 1 + l 1) % 18446744073709551616 : Nat) : Int)) (fun _ _ => dbl_run) <|
     .ins (21 + d) (binK .add 3 (.tmp (20 + d)) (.const (.int .i64 1)) (.int .i64 (l 0 : Int)) (.int .i64 1)) (.int .i64 ((l 0 + 1 : Nat) : Int)) (fun _ _ => inc_run (by omega)) <|
     .next (lst [l 0 + 1,(l 1 + l 1) % 18446744073709551616,((l 2 + l 2) % M + X) % M]) _ (And.intro (gword_more h hl hb) (show 64 - (l 0 + 1) < 64 - l 0 by omega)))
    (fun hb => .ins (27 + d) (binK .geq 27 (.tmp (26 + d)) (.const (.int .u64 9223372036854775808)) (.int .u64 (l 1 : Int)) (.int .u64 9223372036854775808)) (.bool false) (fun _ _ => high_run (decide_eq_false hb)) <|
     .ins (34 + d) (binK .add 27 (.tmp (32 + d)) (.tmp (33 + d)) (.int .u64 (l 1 : Int)) (.int .u64 (l 1 : Int))) (.int .u64 (((l 1 + l 1) % 18446744073709551616 : Nat) : Int)) (fun _ _ => dbl_run) <|
     .ins (21 + d) (binK .add 3 (.tmp (20 + d)) (.const (.int .i64 1)) (.int .i64 (l 0 : Int)) (.int .i64 1)) (.int .i64 ((l 0 + 1 : Nat) : Int)) (fun _ _ => inc_run (by omega)) <|
     .next (lst [l 0 + 1,(l 1 + l 1) % 18446744073709551616,(l 2 + l 2) % M]) _ (And.intro (gword_less h hl hb) (show 64 - (l 0 + 1) < 64 - l 0 by omega))))
  (fun hl => .ins (19 + d) (binK .lss 3 (.tmp (18 + d)) (.const (.int .i64 64)) (.int .i64 (l 0 : Int)) (.int .i64 64)) (.bool false) (fun _ _ => lss_run (decide_eq_false (by omega))) <|
   r (l 2) (by rw [h.2.2,show 64 * (k + 1) - l 0 = 64 * k by omega]))
end
theorem gmul_calls (X Y M : Nat) (hX : X < M) (hY : Y < top) (hM : M < top) (w : World) :
  Calls Tryz.prog 94 #[.agg #[vI vU (wd X 0),vI vU (wd X 1),vI vU (wd X 2),vI vU (wd X 3)],.agg #[vI vU (wd Y 0),vI vU (wd Y 1),vI vU (wd Y 2),vI vU (wd Y 3)],.agg #[vI vU (wd M 0),vI vU (wd M 1),vI vU (wd M 2),vI vU (wd M 3)]] w fun e w' => e = .returned (.agg #[vI vU (wd (X * Y % M) 0),vI vU (wd (X * Y % M) 1),vI vU (wd (X * Y % M) 2),vI vU (wd (X * Y % M) 3)]) ∧ Below w.heap.size w w' :=
 let T0 (k : Int) : List (Nat × SV):=[(3,.p 0 0),(4,.p 1 0),(5,.p 2 0),(6,.p 3 0),(7,.p 4 0),(8,.v (.int .i64 k))]
 let M0 (V : Nat) : List Blk:=[⟨29,cN X⟩,⟨29,cN Y⟩,⟨29,cN M⟩,⟨29,cZ⟩,⟨29,cN V⟩]
 way1 Tryz.func94 [.agg #[vI vU (wd X 0),vI vU (wd X 1),vI vU (wd X 2),vI vU (wd X 3)],.agg #[vI vU (wd Y 0),vI vU (wd Y 1),vI vU (wd Y 2),vI vU (wd Y 3)],.agg #[vI vU (wd M 0),vI vU (wd M 1),vI vU (wd M 2),vI vU (wd M 3)]] (.unroll 5 <| gword 0 9 10 (T0 3) M0 X Y M 3 hX hM 0 (acc_start X Y M _ hY).symm fun V h => gword 0 9 10 (T0 2) M0 X Y M 2 hX hM V h fun V h => gword 0 9 10 (T0 1) M0 X Y M 1 hX hM V h fun V h => gword 0 9 10 (T0 0) M0 X Y M 0 hX hM V h fun V h =>
  .ret (.agg #[vI vU (wd V 0),vI vU (wd V 1),vI vU (wd V 2),vI vU (wd V 3)]) fun _ hW => ⟨by rw [h,Nat.mul_zero,acc_end],hW⟩) (by kernel_rfl)
end Go.Proofs.YtihophdbkjhopaaGreatDoor
