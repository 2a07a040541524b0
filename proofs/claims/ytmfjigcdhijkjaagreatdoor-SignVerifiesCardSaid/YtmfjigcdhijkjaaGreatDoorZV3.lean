/-
  Of Sub Cmp G1 G2 G3 G4a G4 G5a.
-/
import Derived.Test.YtmfjigcdhijkjaaGreatDoorRows
import Derived.WalkKit
import Derived.WalkSpells
import Derived.WalkLawsBesides
import Derived.Deep.LoopGhost
import Derived.Deep.RegionWith
import Derived.Deep.QuietTactic
import Derived.BigQuiet
import Derived.Deep.CutRange
import Derived.Deep.RegionHeld3
import Derived.Test.YtmfjigcdhijkjaaGreatDoorZV1
import Derived.Test.YtmfjigcdhijkjaaGreatDoorZV2
set_option maxRecDepth 1000000
set_option maxHeartbeats 20000000
namespace Go.Proofs.YtmfjigcdhijkjaaGreatDoor
open Go.RowKit
open Go.Act renaming put → aP
open List renaming setIfInBounds_toArray → lA, set_cons_zero → lZ, set_cons_succ → lS
def sub64Entry : Array Value → Sem Value:=fun args => do
 let (x,y,b) ← Extern.MathBitsCarry.three "Sub64" args
 pure (Extern.MathBitsCarry.pair ((x + Extern.MathBitsCarry.m64 - y - b) % Extern.MathBitsCarry.m64) (if x < y + b then 1 else 0))
theorem run_sub64 (x y b : Nat) (hb : b ≤ 1) (w : World) :
  (sub64Entry #[.int .u64 (x : Int),.int .u64 (y : Int),.int .u64 (b : Int)]).run Tryz.prog w =
   .ok (.tuple #[.int .u64 (((x + w64 - y - b) % w64 : Nat) : Int),.int .u64 ((if x < y + b then 1 else 0 : Nat) : Int)]) w:=by
 have : b = 0 ∨ b = 1:=by omega
 rcases this with rfl | rfl <;> rfl
theorem sub64 (x y b : Nat) (hb : b ≤ 1) (w : World) :
  (callFunc 110 #[.int .u64 (x : Int),.int .u64 (y : Int),.int .u64 (b : Int)]).run Tryz.prog w = .ok (.value (.tuple #[.int .u64 (((x + w64 - y - b) % w64 : Nat) : Int),.int .u64 ((if x < y + b then 1 else 0 : Nat) : Int)])) w:=by
 rw [run_callFunc_extern Tryz.func110 (by kernel_rfl) (by kernel_rfl) (by kernel_rfl) (e:=sub64Entry) (by kernel_rfl),run_sub64 x y b hb]
 rfl
def bwI (X Y i : Nat) : Int:=(bw w64 X Y i : Nat)
theorem sub64_at (X Y k : Nat) (hk : k < 4) (hY : Y ≤ top) (w : World) :
  (callFunc 110 #[.int .u64 (wd X k),.int .u64 (wd Y k),.int .u64 (bwI X Y k)]).run Tryz.prog w = .ok (.value (.tuple #[.int .u64 (wd (X + top - Y) k),.int .u64 (bwI X Y (k + 1))])) w:=by
 unfold wd bwI
 rw [sub64 _ _ _ (bw_le w64 X Y k)]
 unfold top at hY ⊢
 rw [bw_succ zbd,dg_sub zbd X Y 4 k hk hY]
theorem bwI_top {X Y : Nat} (hX : X < top) (hY : Y < top) : (bwI X Y 4 != 0) = decide (X < Y):=by
 unfold bwI
 rw [bw_top (n:=4) hX hY]
 by_cases h : X < Y <;> simp [h]
theorem sub_any (X Y : Nat) (hX : X < top) (hY : Y < top) (w : World) :
  Calls Tryz.prog 77 #[.agg #[.int .u64 (wd X 0),.int .u64 (wd X 1),.int .u64 (wd X 2),.int .u64 (wd X 3)],.agg #[.int .u64 (wd Y 0),.int .u64 (wd Y 1),.int .u64 (wd Y 2),.int .u64 (wd Y 3)]] w fun e w' =>
   e = .returned (.tuple #[.agg #[.int .u64 (wd (X + top - Y) 0),.int .u64 (wd (X + top - Y) 1),.int .u64 (wd (X + top - Y) 2),.int .u64 (wd (X + top - Y) 3)],.bool (decide (X < Y))]) ∧ Below w.heap.size w w':=by
 go_enter Tryz.func77,Tryz.ntmps77
 go_wp2
 go_loopw [7,9] (fun c i wr => ∃ k : Nat,k ≤ 4 ∧ i = .int .i64 k ∧ c = .int .u64 (bwI X Y k) ∧ wr.rowIs w.heap.size 24 4 (fun j => .int .u64 (wd X j))
   ∧ wr.rowIs (w.heap.size + 1) 24 4 (fun j => .int .u64 (wd Y j)) ∧ wr.rowIs (w.heap.size + 1 + 1) 24 4 (fun _ => .int .u64 0)
   ∧ wr.rowIs (w.heap.size + 1 + 1 + 1) 24 4 (fun j => .int .u64 (if j < k then wd (X + top - Y) j else 0)) ∧ Below w.heap.size w wr)
  (fun _ i _ => 4 - (intOf i).toNat)
 case atStart => exact ⟨0,by omega,rfl,by simp [bwI,bw_zero],(((zai (n:=4) (by simp) rfl (arr4 fun j => .int .u64 (wd X j))).alloc _).alloc _).alloc _,((zai (n:=4) (by simp) rfl (arr4 fun j => .int .u64 (wd Y j))).alloc _).alloc _,(zai (n:=4) (by simp) rfl (arr4 fun _ => .int .u64 0)).alloc _,zai (n:=4) (by simp) rfl (arr4 fun _ => .int .u64 0),((((Below.refl _ _).alloc (by simp) _).alloc (by simp) _).alloc (by simp; omega) _).alloc (by simp; omega) _⟩
 case round =>
  obtain ⟨k,hk,rfl,rfl,hRX,hRY,hRZ,hRS,hbel⟩:=hrel
  by_cases hlt : k < 4
  ·
   have c1:=hRX.cell hlt
   have c2:=hRY.cell hlt
   have c3:=hRS.cell hlt
   have f3:=hRS.frozen k
   have h30:=fun (W : World) => sub64_at X Y k hlt (Nat.le_of_lt hY) W
   go_wp2
   go_region_with (fail)
   all_goals
    go_wp2
    go_roundw
    case rel => exact ⟨k + 1,by omega,by go_num,rfl,(zba hRX (by omega) _).drew,(zba hRY (by omega) _).drew,(zba hRZ (by omega) _).drew,((hRS.set k _).congr (row_step hlt)).drew,(zav hbel (by omega) _).drew⟩
    case measure => simp [intOf]; omega
  ·
   obtain rfl : k = 4:=by omega
   obtain ⟨c0,c1,c2,c3⟩:=zag hRS
   obtain ⟨d0,d1,d2,d3⟩:=zag hRZ
   obtain ⟨f0,f1,f2,f3⟩:=zaq hRZ
   simp only [show (0 : Nat) < 4 from by omega,show (1 : Nat) < 4 from by omega,show (2 : Nat) < 4 from by omega,show (3 : Nat) < 4 from by omega,if_true] at c0 c1 c2 c3
   clear hRX hRY hRS
   have hz:=bwI_top hX hY
   go_wp2
   refine bodyPost_ret (zca rfl _ _ (w.heap.size + 1 + 1) 24 #[.int .u64 (wd (X + top - Y) 0),.int .u64 (wd (X + top - Y) 1),.int .u64 (wd (X + top - Y) 2),.int .u64 (wd (X + top - Y) 3)] (0,0) 4 22 rfl (blk4 (put4 hRZ fun j => .int .u64 (wd (X + top - Y) j))) Tryz.underlying24 (by kernel_rfl)) rfl ⟨?_,zas hbel (by omega) _ _ _ _⟩
   rfl
theorem sub_calls (X Y : Nat) (hX : X < top) (hY : Y < top) (w : World) :
  Calls Tryz.prog 77 #[.agg #[.int .u64 (wd X 0),.int .u64 (wd X 1),.int .u64 (wd X 2),.int .u64 (wd X 3)],.agg #[.int .u64 (wd Y 0),.int .u64 (wd Y 1),.int .u64 (wd Y 2),.int .u64 (wd Y 3)]] w fun e w' => e = .returned (.tuple #[.agg #[.int .u64 (wd ((X + top - Y) % top) 0),.int .u64 (wd ((X + top - Y) % top) 1),.int .u64 (wd ((X + top - Y) % top) 2),.int .u64 (wd ((X + top - Y) % top) 3)],.bool (decide (X < Y))]) ∧ Below w.heap.size w w':=by
 rw [zeu _ 0 (by omega),zeu _ 1 (by omega),zeu _ 2 (by omega),zeu _ 3 (by omega)]
 exact sub_any X Y hX hY w
def cmpN (X Y : Nat) : Int:=if X < Y then -1 else if Y < X then 1 else 0
theorem ziv (B X Y k : Nat) (hB : 0 < B) : cmpN (X % B ^ (k + 1)) (Y % B ^ (k + 1)) = if dg B X k < dg B Y k then -1 else if dg B Y k < dg B X k then 1 else cmpN (X % B ^ k) (Y % B ^ k):=by
 have hp : 0 < B ^ k:=Nat.pow_pos hB
 have h1:=Nat.mod_lt X hp
 have h2:=Nat.mod_lt Y hp
 unfold cmpN
 rw [zcy,zcy]
 generalize dg B X k = x
 generalize dg B Y k = y
 generalize X % B ^ k = r at *
 generalize Y % B ^ k = s at *
 generalize B ^ k = P at *
 by_cases hxy : x < y
 ·
  have : P * x + P ≤ P * y:=by rw [← Nat.mul_succ]; exact Nat.mul_le_mul_left _ hxy
  rw [if_pos (by omega),if_pos hxy]
 ·
  by_cases hyx : y < x
  ·
   have : P * y + P ≤ P * x:=by rw [← Nat.mul_succ]; exact Nat.mul_le_mul_left _ hyx
   rw [if_neg (by omega),if_pos (by omega),if_neg hxy,if_pos hyx]
  ·
   have hxy' : x = y:=by omega
   subst hxy'
   simp
theorem cmp_high (B X Y n m : Nat) (hB : 0 < B) (hX : X < B ^ n) (hY : Y < B ^ n) (hm : m < n) (h : ∀ j,m < j → j < n → dg B X j = dg B Y j) (hne : dg B X m ≠ dg B Y m) :
  cmpN X Y = if dg B X m < dg B Y m then -1 else 1:=by
 have e : X / B ^ (m + 1) = Y / B ^ (m + 1):=by
  have hn : B ^ n = B ^ (m + 1) * B ^ (n - (m + 1)):=by rw [← Nat.pow_add]; congr 1; omega
  refine zhd hB (n:=n - (m + 1)) ?_ ?_ fun i hi => ?_
  ·
   rw [Nat.div_lt_iff_lt_mul (Nat.pow_pos hB),Nat.mul_comm,← hn]; exact hX
  ·
   rw [Nat.div_lt_iff_lt_mul (Nat.pow_pos hB),Nat.mul_comm,← hn]; exact hY
  ·
   have:=h (m + 1 + i) (by omega) (by omega)
   unfold dg at *
   rwa [Nat.div_div_eq_div_mul,Nat.div_div_eq_div_mul,← Nat.pow_add]
 have c : cmpN X Y = cmpN (X % B ^ (m + 1)) (Y % B ^ (m + 1)):=by
  have hx:=Nat.mod_add_div X (B ^ (m + 1))
  have hy:=Nat.mod_add_div Y (B ^ (m + 1))
  rw [e] at hx
  unfold cmpN
  generalize B ^ (m + 1) * (Y / B ^ (m + 1)) = q at *
  generalize X % B ^ (m + 1) = r at *
  generalize Y % B ^ (m + 1) = s at *
  subst hx; subst hy
  simp
 rw [c,ziv B X Y m hB]
 by_cases hlt : dg B X m < dg B Y m
 ·
  rw [if_pos hlt,if_pos hlt]
 ·
  rw [if_neg hlt,if_neg hlt,if_pos (by omega)]
theorem compare_lt (x y : Int) (h : x < y) (w : World) : Calls Tryz.prog 93 #[.int .u64 x,.int .u64 y] w fun e w' => e = .returned (.int .i64 (-1)) ∧ w' = w:=by
 go_enter Tryz.func93,Tryz.ntmps93
 go_wp2
 go_ret
 exact ⟨rfl,rfl⟩
theorem compare_gt (x y : Int) (h : y < x) (w : World) : Calls Tryz.prog 93 #[.int .u64 x,.int .u64 y] w fun e w' => e = .returned (.int .i64 1) ∧ w' = w:=by
 go_enter Tryz.func93,Tryz.ntmps93
 go_wp2
 go_ret
 exact ⟨rfl,rfl⟩
theorem wd_cmp {X Y k : Nat} (h : dg w64 X k < dg w64 Y k) : wd X k < wd Y k:=by unfold wd; omega
theorem zge (X Y : Nat) (hX : X < top) (hY : Y < top) (w : World) :
  Calls Tryz.prog 46 #[.agg #[.int .u64 (wd X 0),.int .u64 (wd X 1),.int .u64 (wd X 2),.int .u64 (wd X 3)],.agg #[.int .u64 (wd Y 0),.int .u64 (wd Y 1),.int .u64 (wd Y 2),.int .u64 (wd Y 3)]] w fun e w' => e = .returned (.int .i64 (cmpN X Y)) ∧ Below w.heap.size w w':=by
 go_enter Tryz.func46,Tryz.ntmps46
 go_wp2
 go_loopw [5] (fun i wr => ∃ k : Nat,k ≤ 4 ∧ i = .int .i64 ((k : Int) - 1) ∧ (∀ j,k ≤ j → j < 4 → dg w64 X j = dg w64 Y j) ∧ wr.rowIs w.heap.size 24 4 (fun j => .int .u64 (wd X j))
   ∧ wr.rowIs (w.heap.size + 1) 24 4 (fun j => .int .u64 (wd Y j)) ∧ Below w.heap.size w wr)
  (fun i _ => (intOf i + 1).toNat)
 case atStart => exact ⟨4,by omega,rfl,by intro j h1 h2; omega,(zai (n:=4) (by simp) rfl (arr4 fun j => .int .u64 (wd X j))).alloc _,zai (n:=4) (by simp) rfl (arr4 fun j => .int .u64 (wd Y j)),((Below.refl _ _).alloc (by simp) _).alloc (by simp) _⟩
 case round =>
  obtain ⟨k,hk,hi,hall,hRX,hRY,hbel⟩:=hrel
  have HALL:=veil hall
  clear hall
  cases k with
  | zero =>
   subst hi
   have hXY : X = Y:=zhd zbd hX hY fun j hj => HALL.out j (Nat.zero_le _) hj
   go_wp2
   go_ret
   have hc : cmpN X Y = 0:=by unfold cmpN; rw [if_neg (by omega),if_neg (by omega)]
   rw [hc]
   exact ⟨rfl,hbel⟩
  | succ m =>
   obtain rfl : _ = Value.int .i64 (m : Int):=hi.trans (by congr 1; omega)
   have hm : m < 4:=by omega
   go_wp2
   have c1:=hRX.cell hm
   have c2:=hRY.cell hm
   rcases Nat.lt_trichotomy (dg w64 X m) (dg w64 Y m) with h | h | h
   ·
    have hlt:=wd_cmp h
    have hne : (wd X m != wd Y m) = true:=by rw [bne_iff_ne]; omega
    have hc : cmpN X Y = -1:=by rw [cmp_high w64 X Y 4 m zbd hX hY hm (fun j h1 h2 => HALL.out j (by omega) h2) (by omega),if_pos h]
    have HC:=veil hc
    clear hc
    go_quiet (fail)
    go_wp2
    go_quiet ((go_at_call 93; exact quiet_more (compare_lt _ _ hlt _)))
    go_wp2
    go_ret
    rw [HC.out]
    exact ⟨rfl,zbq (zbq hbel _) _⟩
   ·
    have hne : (wd X m != wd Y m) = false:=by unfold wd; rw [h]; simp
    go_quiet (fail)
    go_wp2
    go_roundw
    case rel => exact ⟨m,by omega,by go_num,fun j h1 h2 => by
     by_cases e : j = m
     ·
      rw [e]; exact h
     ·
      exact HALL.out j (by omega) h2,zch hRX _,zch hRY _,zbq hbel _⟩
    case measure => simp [intOf]
   ·
    have hlt:=wd_cmp h
    have hne : (wd X m != wd Y m) = true:=by rw [bne_iff_ne]; omega
    have hc : cmpN X Y = 1:=by rw [cmp_high w64 X Y 4 m zbd hX hY hm (fun j h1 h2 => HALL.out j (by omega) h2) (by omega),if_neg (by omega)]
    have HC:=veil hc
    clear hc
    go_quiet (fail)
    go_wp2
    go_quiet ((go_at_call 93; exact quiet_more (compare_gt _ _ hlt _)))
    go_wp2
    go_ret
    rw [HC.out]
    exact ⟨rfl,zbq (zbq hbel _) _⟩
theorem ret_u2' {a b c d : Int} (h : a = b) (h2 : c = d) : Ending.returned (.tuple #[.int .u64 a,.int .u64 c]) = .returned (.tuple #[.int .u64 b,.int .u64 d]):=by rw [h,h2]
theorem gadd_core (x y c : Int) (hx : 0 ≤ x) (hx2 : x ≤ 18446744073709551615) (hy : 0 ≤ y) (hy2 : y ≤ 18446744073709551615) (hc : 0 ≤ c) (hc2 : c ≤ 1) (w : World) :
  Calls Tryz.prog 106 #[.int .u64 x,.int .u64 y,.int .u64 c] w fun e w' => e = .returned (.tuple #[.int .u64 ((x + y + c) % 18446744073709551616),.int .u64 ((x + y + c) / 18446744073709551616)]) ∧ w' = w:=by
 obtain ⟨s,hs⟩ : ∃ s,s = (x + y) % 18446744073709551616:=⟨_,rfl⟩
 obtain ⟨t,ht⟩ : ∃ t,t = (s + c) % 18446744073709551616:=⟨_,rfl⟩
 have e1 : IntKind.u64.wrap (x + y) = s:=by rw [IntKind.wrap_u64,hs]
 have e2 : IntKind.u64.wrap (s + c) = t:=by rw [IntKind.wrap_u64,ht]
 have et : t = (x + y + c) % 18446744073709551616:=by omega
 have E:=veil et
 by_cases h1 : s < x
 ·
  have h2 : ¬ t < s:=by omega
  have eo : (x + y + c) / 18446744073709551616 = 1:=by omega
  have EO:=veil eo
  clear et eo hs ht hx hx2 hy hy2 hc hc2
  go_enter Tryz.func106,Tryz.ntmps106
  go_wp2
  go_ret2
  rw [EO.out,← E.out]
  exact ⟨ret_u2' (by first | rfl | (rw [e1,e2]) | (rw [e2])) rfl,rfl⟩
 ·
  by_cases h2 : t < s
  ·
   have eo : (x + y + c) / 18446744073709551616 = 1:=by omega
   have EO:=veil eo
   clear et eo hs ht hx hx2 hy hy2 hc hc2
   go_enter Tryz.func106,Tryz.ntmps106
   go_wp2
   go_ret2
   rw [EO.out,← E.out]
   exact ⟨ret_u2' (by first | rfl | (rw [e1,e2]) | (rw [e2])) rfl,rfl⟩
  ·
   have eo : (x + y + c) / 18446744073709551616 = 0:=by omega
   have EO:=veil eo
   clear et eo hs ht hx hx2 hy hy2 hc hc2
   go_enter Tryz.func106,Tryz.ntmps106
   go_wp2
   go_ret2
   rw [EO.out,← E.out]
   exact ⟨ret_u2' (by first | rfl | (rw [e1,e2]) | (rw [e2])) rfl,rfl⟩
theorem gadd_at (X Y k : Nat) (w : World) :
  Calls Tryz.prog 106 #[.int .u64 (wd X k),.int .u64 (wd Y k),.int .u64 (cyI X Y k)] w fun e w' => e = .returned (.tuple #[.int .u64 (wd (X + Y) k),.int .u64 (cyI X Y (k + 1))]) ∧ w = w':=by
 have hc:=cy_le zbd X Y k
 have h:=gadd_core (wd X k) (wd Y k) (cyI X Y k) (wd_lo _ _) (wd_le _ _) (wd_lo _ _) (wd_le _ _) (by unfold cyI; omega) (by unfold cyI; omega) w
 have e1 : (wd X k + wd Y k + cyI X Y k) % 18446744073709551616 = wd (X + Y) k:=by
  unfold wd cyI; rw [dg_add zbd]; unfold w64; simp
 have e2 : (wd X k + wd Y k + cyI X Y k) / 18446744073709551616 = cyI X Y (k + 1):=by
  unfold wd cyI; rw [cy_succ zbd]; unfold w64; simp
 rw [e1,e2] at h
 exact h.mono fun _ _ ⟨a,b⟩ => ⟨a,b.symm⟩
theorem zen {X Z k : Nat} (_hk : k < 4) : ∀ i,i < 4 → (if i = k then Value.int .u64 (wd Z k) else Value.int .u64 (if i < k then wd Z i else wd X i)) = Value.int .u64 (if i < k + 1 then wd Z i else wd X i):=by
 intro i _
 by_cases h : i = k
 ·
  subst h; simp
 ·
  rw [if_neg h]; by_cases h2 : i < k
  ·
   rw [if_pos h2,if_pos (by omega)]
  ·
   rw [if_neg h2,if_neg (by omega)]
theorem cyI_one {X Y : Nat} (hX : X < top) (hY : Y < top) : (cyI X Y 4 == 1) = decide (top ≤ X + Y):=by
 unfold cyI
 rw [cy_top (n:=4) hX hY]
 show _ = decide (w64 ^ 4 ≤ X + Y)
 by_cases h : w64 ^ 4 ≤ X + Y <;> simp [h]
theorem plus_any (X Y : Nat) (hX : X < top) (hY : Y < top) (w : World) :
  Calls Tryz.prog 73 #[.agg #[.int .u64 (wd X 0),.int .u64 (wd X 1),.int .u64 (wd X 2),.int .u64 (wd X 3)],.agg #[.int .u64 (wd Y 0),.int .u64 (wd Y 1),.int .u64 (wd Y 2),.int .u64 (wd Y 3)]] w fun e w' => e = .returned (.tuple #[.agg #[.int .u64 (wd (X + Y) 0),.int .u64 (wd (X + Y) 1),.int .u64 (wd (X + Y) 2),.int .u64 (wd (X + Y) 3)],.bool (decide (top ≤ X + Y))]) ∧ Below w.heap.size w w':=by
 have HG:=veil (fun (k : Nat) (W : World) => gadd_at X Y k W)
 go_enter Tryz.func73,Tryz.ntmps73
 go_wp2
 go_loopw [6,7] (fun c i wr => ∃ k : Nat,k ≤ 4 ∧ i = .int .i64 k ∧ c = .int .u64 (cyI X Y k) ∧ wr.rowIs w.heap.size 24 4 (fun j => .int .u64 (if j < k then wd (X + Y) j else wd X j))
   ∧ wr.rowIs (w.heap.size + 1) 24 4 (fun j => .int .u64 (wd Y j)) ∧ wr.rowIs (w.heap.size + 1 + 1) 24 4 (fun _ => .int .u64 0) ∧ Below w.heap.size w wr)
  (fun _ i _ => 4 - (intOf i).toNat)
 case atStart => exact ⟨0,by omega,rfl,by simp [cyI,cy_zero],(((zai (n:=4) (by simp) rfl (arr4 fun j => .int .u64 (wd X j))).alloc _).alloc _).congr (fun j _ => by simp),(zai (n:=4) (by simp) rfl (arr4 fun j => .int .u64 (wd Y j))).alloc _,zai (n:=4) (by simp) rfl (arr4 fun _ => .int .u64 0),(((Below.refl _ _).alloc (by simp) _).alloc (by simp) _).alloc (by simp; omega) _⟩
 case round =>
  obtain ⟨k,hk,rfl,rfl,hRX,hRY,hRZ,hbel⟩:=hrel
  by_cases hlt : k < 4
  ·
   have c1:=hRX.cell hlt
   have c2:=hRY.cell hlt
   have f1:=hRX.frozen k
   rw [if_neg (by omega)] at c1
   go_wp2
   go_region_with (go_at_call 106; refine (HG.out _ _).mono ?_; rintro e w' ⟨rfl,rfl⟩)
   all_goals
    go_wp2
    go_roundw
    case rel => exact ⟨k + 1,by omega,by go_num,rfl,((hRX.set k _).congr (zen hlt)).drew,(zba hRY (by omega) _).drew,(zba hRZ (by omega) _).drew,(zav hbel (by omega) _).drew⟩
    case measure => simp [intOf]; omega
  ·
   obtain rfl : k = 4:=by omega
   obtain ⟨c0,c1,c2,c3⟩:=zag hRX
   obtain ⟨d0,d1,d2,d3⟩:=zag hRZ
   obtain ⟨f0,f1,f2,f3⟩:=zaq hRZ
   simp only [show (0 : Nat) < 4 from by omega,show (1 : Nat) < 4 from by omega,show (2 : Nat) < 4 from by omega,show (3 : Nat) < 4 from by omega,if_true] at c0 c1 c2 c3
   have hz:=cyI_one hX hY
   clear hRX hRY
   go_wp2
   refine bodyPost_ret (zca rfl _ _ (w.heap.size + 1 + 1) 24 #[.int .u64 (wd (X + Y) 0),.int .u64 (wd (X + Y) 1),.int .u64 (wd (X + Y) 2),.int .u64 (wd (X + Y) 3)] (0,0) 4 22 rfl (blk4 (put4 hRZ fun j => .int .u64 (wd (X + Y) j))) Tryz.underlying24 (by kernel_rfl)) rfl ⟨?_,zas hbel (by omega) _ _ _ _⟩
   rfl
theorem zht (X Y : Nat) (hX : X < top) (hY : Y < top) (w : World) :
  Calls Tryz.prog 73 #[.agg #[.int .u64 (wd X 0),.int .u64 (wd X 1),.int .u64 (wd X 2),.int .u64 (wd X 3)],.agg #[.int .u64 (wd Y 0),.int .u64 (wd Y 1),.int .u64 (wd Y 2),.int .u64 (wd Y 3)]] w fun e w' => e = .returned (.tuple #[.agg #[.int .u64 (wd ((X + Y) % top) 0),.int .u64 (wd ((X + Y) % top) 1),.int .u64 (wd ((X + Y) % top) 2),.int .u64 (wd ((X + Y) % top) 3)],.bool (decide (top ≤ X + Y))]) ∧ Below w.heap.size w w':=by
 rw [zeu _ 0 (by omega),zeu _ 1 (by omega),zeu _ 2 (by omega),zeu _ 3 (by omega)]
 exact plus_any X Y hX hY w
theorem lt_high {X Y m : Nat} (hX : X < top) (hY : Y < top) (hm : m < 4) (h : ∀ j,m < j → j < 4 → dg w64 X j = dg w64 Y j) (hne : dg w64 X m ≠ dg w64 Y m) : decide (X < Y) = decide (wd X m < wd Y m):=by
 have hc:=cmp_high w64 X Y 4 m zbd hX hY hm h hne
 unfold cmpN at hc
 unfold wd
 by_cases h1 : dg w64 X m < dg w64 Y m
 ·
  rw [if_pos h1] at hc
  by_cases h2 : X < Y
  ·
   simp [h1,h2]
  ·
   rw [if_neg h2] at hc; split at hc <;> omega
 ·
  rw [if_neg h1] at hc
  by_cases h2 : X < Y
  ·
   rw [if_pos h2] at hc; omega
  ·
   simp [h1,h2]
theorem less_calls (X Y : Nat) (hX : X < top) (hY : Y < top) (w : World) :
  Calls Tryz.prog 67 #[.agg #[.int .u64 (wd X 0),.int .u64 (wd X 1),.int .u64 (wd X 2),.int .u64 (wd X 3)],.agg #[.int .u64 (wd Y 0),.int .u64 (wd Y 1),.int .u64 (wd Y 2),.int .u64 (wd Y 3)]] w fun e w' => e = .returned (.bool (decide (X < Y))) ∧ Below w.heap.size w w':=by
 go_enter Tryz.func67,Tryz.ntmps67
 go_wp2
 go_loopw [5] (fun i wr => ∃ k : Nat,k ≤ 4 ∧ i = .int .i64 ((k : Int) - 1) ∧ (∀ j,k ≤ j → j < 4 → dg w64 X j = dg w64 Y j) ∧ wr.rowIs w.heap.size 24 4 (fun j => .int .u64 (wd X j))
   ∧ wr.rowIs (w.heap.size + 1) 24 4 (fun j => .int .u64 (wd Y j)) ∧ Below w.heap.size w wr)
  (fun i _ => (intOf i + 1).toNat)
 case atStart => exact ⟨4,by omega,rfl,by intro j h1 h2; omega,(zai (n:=4) (by simp) rfl (arr4 fun j => .int .u64 (wd X j))).alloc _,zai (n:=4) (by simp) rfl (arr4 fun j => .int .u64 (wd Y j)),((Below.refl _ _).alloc (by simp) _).alloc (by simp) _⟩
 case round =>
  obtain ⟨k,hk,hi,hall,hRX,hRY,hbel⟩:=hrel
  have HALL:=veil hall
  clear hall
  cases k with
  | zero =>
   subst hi
   have hXY : X = Y:=zhd zbd hX hY fun j hj => HALL.out j (Nat.zero_le _) hj
   have HXY:=veil hXY
   clear hXY
   go_wp2
   go_ret
   rw [show decide (X < Y) = false by rw [HXY.out]; simp]
   exact ⟨rfl,hbel⟩
  | succ m =>
   obtain rfl : _ = Value.int .i64 (m : Int):=hi.trans (by congr 1; omega)
   have hm : m < 4:=by omega
   go_wp2
   have c1:=hRX.cell hm
   have c2:=hRY.cell hm
   by_cases h : dg w64 X m = dg w64 Y m
   ·
    have hne : (wd X m != wd Y m) = false:=by unfold wd; rw [h]; simp
    go_quiet (fail)
    go_wp2
    go_roundw
    case rel => exact ⟨m,by omega,by go_num,fun j h1 h2 => by
     by_cases e : j = m
     ·
      rw [e]; exact h
     ·
      exact HALL.out j (by omega) h2,zch hRX _,zch hRY _,zbq hbel _⟩
    case measure => simp [intOf]
   ·
    have hne : (wd X m != wd Y m) = true:=by rw [bne_iff_ne]; unfold wd; omega
    have HC:=veil (lt_high hX hY hm (fun j h1 h2 => HALL.out j (by omega) h2) h)
    clear h
    go_quiet (fail)
    go_wp2
    go_quiet (fail)
    go_wp2
    go_ret
    rw [HC.out]
    exact ⟨rfl,zbq (zbq hbel _) _⟩
theorem dg_ones {B : Nat} (hB : 0 < B) (n i : Nat) (hi : i < n) : dg B (B ^ n - 1) i = B - 1:=by
 obtain ⟨d,rfl⟩ : ∃ d,n = i + (d + 1):=⟨n - i - 1,by omega⟩
 have hp : 0 < B ^ i:=Nat.pow_pos hB
 have hd : 0 < B ^ d:=Nat.pow_pos hB
 have e : B ^ (i + (d + 1)) - 1 = (B ^ i - 1) + B ^ i * (B ^ (d + 1) - 1):=by
  rw [Nat.pow_add,Nat.mul_sub,Nat.mul_one]
  have : B ^ i ≤ B ^ i * B ^ (d + 1):=Nat.le_mul_of_pos_right _ (Nat.pow_pos hB)
  omega
 have e2 : B ^ (d + 1) - 1 = (B - 1) + B * (B ^ d - 1):=by
  rw [Nat.pow_succ,Nat.mul_comm,Nat.mul_sub,Nat.mul_one]
  have : B ≤ B * B ^ d:=Nat.le_mul_of_pos_right _ hd
  omega
 unfold dg
 rw [e,Nat.add_mul_div_left _ _ hp,Nat.div_eq_of_lt (by omega),Nat.zero_add,e2,Nat.add_mul_mod_self_left,Nat.mod_eq_of_lt (by omega)]
theorem dg_comp {B : Nat} (hB : 0 < B) (Y n i : Nat) (hi : i < n) (hY : Y < B ^ n) : dg B (B ^ n - 1 - Y) i = B - 1 - dg B Y i:=by
 have h:=dg_sub hB (B ^ n - 1) Y n i hi (Nat.le_of_lt hY)
 have e : dg B (B ^ n - 1 + B ^ n - Y) i = dg B (B ^ n - 1 - Y) i:=by
  rw [show B ^ n - 1 + B ^ n - Y = (B ^ n - 1 - Y) + B ^ n by omega,← zdj _ n i hi,Nat.add_mod_right,zdj _ n i hi]
 have hb : bw B (B ^ n - 1) Y i = 0:=by
  have hp : 0 < B ^ i:=Nat.pow_pos hB
  unfold bw
  have e2 : (B ^ n - 1) % B ^ i = B ^ i - 1:=by
   obtain ⟨d,rfl⟩ : ∃ d,n = i + d:=⟨n - i,by omega⟩
   have : B ^ i ≤ B ^ i * B ^ d:=Nat.le_mul_of_pos_right _ (Nat.pow_pos hB)
   rw [Nat.pow_add,show B ^ i * B ^ d - 1 = (B ^ i - 1) + B ^ i * (B ^ d - 1) by rw [Nat.mul_sub,Nat.mul_one]; omega,Nat.add_mul_mod_self_left,Nat.mod_eq_of_lt (by omega)]
  have h1:=Nat.mod_lt Y hp
  rw [e2,if_neg (by omega)]
 have hl:=dg_lt hB Y i
 rw [e,hb,dg_ones hB n i hi] at h
 rw [h,Nat.mod_eq_sub_mod (by omega),Nat.mod_eq_of_lt (by omega)]
 omega
theorem wd_comp {Y i : Nat} (hY : Y < top) (hi : i < 4) : 18446744073709551615 - wd Y i = wd (top - 1 - Y) i:=by
 have h:=dg_comp zbd Y 4 i hi hY
 have hl:=dg_lt zbd Y i
 unfold wd top
 rw [h]
 unfold w64 at *
 omega
theorem minus_num {X Y : Nat} (hY : Y < top) : ((X + (top - 1 - Y)) % top + 1) % top = (X + top - Y) % top:=by
 rw [Nat.mod_add_mod,show X + (top - 1 - Y) + 1 = X + top - Y by omega]
theorem minus_calls (X Y : Nat) (hX : X < top) (hY : Y < top) (w : World) :
  Calls Tryz.prog 70 #[.agg #[.int .u64 (wd X 0),.int .u64 (wd X 1),.int .u64 (wd X 2),.int .u64 (wd X 3)],.agg #[.int .u64 (wd Y 0),.int .u64 (wd Y 1),.int .u64 (wd Y 2),.int .u64 (wd Y 3)]] w fun e w' => e = .returned (.agg #[.int .u64 (wd ((X + top - Y) % top) 0),.int .u64 (wd ((X + top - Y) % top) 1),.int .u64 (wd ((X + top - Y) % top) 2),.int .u64 (wd ((X + top - Y) % top) 3)]) ∧ Below w.heap.size w w':=by
 obtain ⟨D,hD⟩ : ∃ D,D = (X + top - Y) % top:=⟨_,rfl⟩
 rw [← hD]
 have HD:=veil hD
 clear hD
 go_enter Tryz.func70,Tryz.ntmps70
 go_wp2
 go_loopw [5] (fun i wr => ∃ k : Nat,k ≤ 4 ∧ i = .int .i64 k ∧ wr.rowIs w.heap.size 24 4 (fun j => .int .u64 (wd X j))
   ∧ wr.rowIs (w.heap.size + 1) 24 4 (fun j => .int .u64 (if j < k then wd (top - 1 - Y) j else wd Y j)) ∧ wr.rowIs (w.heap.size + 1 + 1) 24 4 (fun _ => .int .u64 0) ∧ Below w.heap.size w wr)
  (fun i _ => 4 - (intOf i).toNat)
 case atStart => exact ⟨0,by omega,rfl,((zai (n:=4) (by simp) rfl (arr4 fun j => .int .u64 (wd X j))).alloc _).alloc _,((zai (n:=4) (by simp) rfl (arr4 fun j => .int .u64 (wd Y j))).alloc _).congr (fun j _ => by simp),zai (n:=4) (by simp) rfl (arr4 fun _ => .int .u64 0),(((Below.refl _ _).alloc (by simp) _).alloc (by simp) _).alloc (by simp; omega) _⟩
 case round =>
  obtain ⟨k,hk,rfl,hRX,hRY,hRZ,hbel⟩:=hrel
  by_cases hlt : k < 4
  ·
   have c2:=hRY.cell hlt
   have f2:=hRY.frozen k
   rw [if_neg (by omega)] at c2
   have l1:=wd_lo Y k
   have u1:=wd_le Y k
   have HC:=veil (wd_comp hY hlt)
   go_wp2
   go_roundw
   case rel =>
    rw [HC.out]
    exact ⟨k + 1,by omega,by go_num,zba hRX (by omega) _,(hRY.set k _).congr (zen hlt),zba hRZ (by omega) _,zav hbel (by omega) _⟩
   case measure => simp [intOf]; omega
  ·
   obtain rfl : k = 4:=by omega
   have hRY:=hRY.congr (g:=fun j => .int .u64 (wd (top - 1 - Y) j)) (fun j hj => by rw [if_pos hj])
   obtain ⟨c0,c1,c2,c3⟩:=zag hRX
   obtain ⟨b0,b1,b2,b3⟩:=zag hRY
   obtain ⟨S,hS⟩ : ∃ S,S = (X + (top - 1 - Y)) % top:=⟨_,rfl⟩
   have hSt : S < top:=by rw [hS]; exact Nat.mod_lt _ zcp
   have h1:=fun W => zht X (top - 1 - Y) hX (by omega) W
   have h2:=fun W => zht S 1 hSt (by decide) W
   rw [← hS] at h1
   rw [hS,minus_num hY,← hS,← HD.out] at h2
   have H1:=veil h1
   have o0 : wd 1 0 = 1:=by decide
   have o1 : wd 1 1 = 0:=by decide
   have o2 : wd 1 2 = 0:=by decide
   have o3 : wd 1 3 = 0:=by decide
   rw [o0,o1,o2,o3] at h2
   have H2:=veil h2
   clear h1 h2 hS o0 o1 o2 o3
   go_wp2_with fail
   refine (H1.out _).mono ?_
   rintro e w3 ⟨rfl,hb3⟩
   clear c0 c1 c2 c3 b0 b1 b2 b3
   have hRZ3:=zad hRZ hb3 hRZ.lt
   have hB3:=hbel.trans (hb3.mono hbel.size)
   have hS4 : (w3.alloc (.cells #[.int .u64 (wd S 0),.int .u64 (wd S 1),.int .u64 (wd S 2),.int .u64 (wd S 3)] 24)).rowIs w3.heap.size 24 4 (fun j => .int .u64 (wd S j)):=zai (n:=4) rfl rfl (arr4 fun j => .int .u64 (wd S j))
   have hRZ4:=hRZ3.alloc (.cells #[.int .u64 (wd S 0),.int .u64 (wd S 1),.int .u64 (wd S 2),.int .u64 (wd S 3)] 24)
   have hB4:=hB3.alloc hB3.size (.cells #[.int .u64 (wd S 0),.int .u64 (wd S 1),.int .u64 (wd S 2),.int .u64 (wd S 3)] 24)
   have nz:=hRZ3.lt
   clear hRX hRY hRZ hbel hb3 hRZ3 hB3
   go_wp2_with fail
   refine (H2.out _).mono ?_
   rintro e w5 ⟨rfl,hb5⟩
   have hS5:=zad hS4 hb5 hS4.lt
   have hRZ5:=zad hRZ4 hb5 hRZ4.lt
   have hB5:=hB4.trans (hb5.mono hB4.size)
   clear hS4 hRZ4 hB4 hb5
   obtain ⟨t0,t1,t2,t3⟩:=zaq hS5
   obtain ⟨v0,v1,v2,v3⟩:=zag hS5
   go_upto_region 7 with (fail)
   have hTz:=put4 hS5 (fun j => .int .u64 (wd D j))
   have hZz:=zar hRZ5 (Nat.ne_of_lt nz) (.int .u64 (wd D 0)) (.int .u64 (wd D 1)) (.int .u64 (wd D 2)) (.int .u64 (wd D 3))
   have hBz:=zas (b:=w3.heap.size) hB5 (by omega) (.int .u64 (wd D 0)) (.int .u64 (wd D 1)) (.int .u64 (wd D 2)) (.int .u64 (wd D 3))
   clear v0 v1 v2 v3 t0 t1 t2 t3 hS5 hRZ5 hB5
   generalize ((((w5.setCell ⟨w3.heap.size,0,none⟩ (.int .u64 (wd D 0))).setCell ⟨w3.heap.size,1,none⟩ (.int .u64 (wd D 1))).setCell ⟨w3.heap.size,2,none⟩ (.int .u64 (wd D 2))).setCell ⟨w3.heap.size,3,none⟩ (.int .u64 (wd D 3))) = wz at *
   obtain ⟨p0,p1,p2,p3⟩:=zag hTz
   obtain ⟨d0,d1,d2,d3⟩:=zag hZz
   obtain ⟨f0,f1,f2,f3⟩:=zaq hZz
   go_wp2
   refine bodyPost_ret (results_cell_row rfl _ _ (w.heap.size + 1 + 1) 24 #[.int .u64 (wd D 0),.int .u64 (wd D 1),.int .u64 (wd D 2),.int .u64 (wd D 3)] (0,0) _ rfl (blk4 (put4 hZz fun j => .int .u64 (wd D j))) Tryz.underlying24 rfl (by kernel_rfl)) rfl ⟨rfl,zas hBz (by omega) _ _ _ _⟩
theorem gsum_num {X Y M : Nat} (hX : X < M) (hY : Y < M) (hM : M ≤ top) : (X + Y) % M = if top ≤ X + Y ∨ ¬ (X + Y) % top < M then ((X + Y) % top + top - M) % top else (X + Y) % top:=by
 generalize top = t at *
 by_cases h : t ≤ X + Y
 ·
  rw [if_pos (Or.inl h),Nat.mod_eq_sub_mod (show t ≤ X + Y from h),Nat.mod_eq_of_lt (show X + Y - t < t by omega),show X + Y - t + t - M = X + Y - M by omega,Nat.mod_eq_of_lt (show X + Y - M < t by omega)]
  rw [Nat.mod_eq_sub_mod (by omega),Nat.mod_eq_of_lt (by omega)]
 ·
  rw [Nat.mod_eq_of_lt (show X + Y < t by omega)]
  by_cases h2 : X + Y < M
  ·
   rw [if_neg (by omega),Nat.mod_eq_of_lt h2]
  ·
   rw [if_pos (Or.inr h2),Nat.mod_eq_sub_mod (show M ≤ X + Y by omega),Nat.mod_eq_of_lt (show X + Y - M < M by omega),show X + Y + t - M = (X + Y - M) + t by omega,Nat.add_mod_right,Nat.mod_eq_of_lt (by omega)]
theorem zhj (X Y Z : Nat) (u : Bool) (h : (X + Y) % top = Z) (h2 : decide (top ≤ X + Y) = u) (hX : X < top) (hY : Y < top) (w : World) :
  Calls Tryz.prog 73 #[.agg #[.int .u64 (wd X 0),.int .u64 (wd X 1),.int .u64 (wd X 2),.int .u64 (wd X 3)],.agg #[.int .u64 (wd Y 0),.int .u64 (wd Y 1),.int .u64 (wd Y 2),.int .u64 (wd Y 3)]] w fun e w' => e = .returned (.tuple #[.agg #[.int .u64 (wd Z 0),.int .u64 (wd Z 1),.int .u64 (wd Z 2),.int .u64 (wd Z 3)],.bool u]) ∧ Below w.heap.size w w':=by
 subst h; subst h2; exact zht X Y hX hY w
theorem zft (X Y : Nat) (u : Bool) (h : decide (X < Y) = u) (hX : X < top) (hY : Y < top) (w : World) :
  Calls Tryz.prog 67 #[.agg #[.int .u64 (wd X 0),.int .u64 (wd X 1),.int .u64 (wd X 2),.int .u64 (wd X 3)],.agg #[.int .u64 (wd Y 0),.int .u64 (wd Y 1),.int .u64 (wd Y 2),.int .u64 (wd Y 3)]] w fun e w' => e = .returned (.bool u) ∧ Below w.heap.size w w':=by
 subst h; exact less_calls X Y hX hY w
theorem zgc (X Y Z : Nat) (h : (X + top - Y) % top = Z) (hX : X < top) (hY : Y < top) (w : World) :
  Calls Tryz.prog 70 #[.agg #[.int .u64 (wd X 0),.int .u64 (wd X 1),.int .u64 (wd X 2),.int .u64 (wd X 3)],.agg #[.int .u64 (wd Y 0),.int .u64 (wd Y 1),.int .u64 (wd Y 2),.int .u64 (wd Y 3)]] w fun e w' => e = .returned (.agg #[.int .u64 (wd Z 0),.int .u64 (wd Z 1),.int .u64 (wd Z 2),.int .u64 (wd Z 3)]) ∧ Below w.heap.size w w':=by
 subst h; exact minus_calls X Y hX hY w
theorem gadd_over (X Y M S D : Nat) (hX : X < top) (hY : Y < top) (hM : M < top) (hS : (X + Y) % top = S) (hu : decide (top ≤ X + Y) = true) (hD : (S + top - M) % top = D) (w : World) :
  Calls Tryz.prog 29 #[.agg #[.int .u64 (wd X 0),.int .u64 (wd X 1),.int .u64 (wd X 2),.int .u64 (wd X 3)],.agg #[.int .u64 (wd Y 0),.int .u64 (wd Y 1),.int .u64 (wd Y 2),.int .u64 (wd Y 3)],.agg #[.int .u64 (wd M 0),.int .u64 (wd M 1),.int .u64 (wd M 2),.int .u64 (wd M 3)]] w fun e w' => e = .returned (.agg #[.int .u64 (wd D 0),.int .u64 (wd D 1),.int .u64 (wd D 2),.int .u64 (wd D 3)]) ∧ Below w.heap.size w w':=by
 have hSt : S < top:=by rw [← hS]; exact Nat.mod_lt _ zcp
 have HS:=veil hS
 have HU:=veil hu
 have HD:=veil hD
 clear hS hu hD
 have hX0 : ((((w.alloc (.cells #[.int .u64 (wd X 0),.int .u64 (wd X 1),.int .u64 (wd X 2),.int .u64 (wd X 3)] 24)).alloc (.cells #[.int .u64 (wd Y 0),.int .u64 (wd Y 1),.int .u64 (wd Y 2),.int .u64 (wd Y 3)] 24)).alloc (.cells #[.int .u64 (wd M 0),.int .u64 (wd M 1),.int .u64 (wd M 2),.int .u64 (wd M 3)] 24)).alloc (.cells #[.int .u64 0,.int .u64 0,.int .u64 0,.int .u64 0] 24)).rowIs w.heap.size 24 4 (fun j => .int .u64 (wd X j)):=(((zai (n:=4) (by simp) rfl (arr4 fun j => .int .u64 (wd X j))).alloc _).alloc _).alloc _
 have hY0 : ((((w.alloc (.cells #[.int .u64 (wd X 0),.int .u64 (wd X 1),.int .u64 (wd X 2),.int .u64 (wd X 3)] 24)).alloc (.cells #[.int .u64 (wd Y 0),.int .u64 (wd Y 1),.int .u64 (wd Y 2),.int .u64 (wd Y 3)] 24)).alloc (.cells #[.int .u64 (wd M 0),.int .u64 (wd M 1),.int .u64 (wd M 2),.int .u64 (wd M 3)] 24)).alloc (.cells #[.int .u64 0,.int .u64 0,.int .u64 0,.int .u64 0] 24)).rowIs (w.heap.size + 1) 24 4 (fun j => .int .u64 (wd Y j)):=((zai (n:=4) (by simp) rfl (arr4 fun j => .int .u64 (wd Y j))).alloc _).alloc _
 have hM0 : ((((w.alloc (.cells #[.int .u64 (wd X 0),.int .u64 (wd X 1),.int .u64 (wd X 2),.int .u64 (wd X 3)] 24)).alloc (.cells #[.int .u64 (wd Y 0),.int .u64 (wd Y 1),.int .u64 (wd Y 2),.int .u64 (wd Y 3)] 24)).alloc (.cells #[.int .u64 (wd M 0),.int .u64 (wd M 1),.int .u64 (wd M 2),.int .u64 (wd M 3)] 24)).alloc (.cells #[.int .u64 0,.int .u64 0,.int .u64 0,.int .u64 0] 24)).rowIs (w.heap.size + 1 + 1) 24 4 (fun j => .int .u64 (wd M j)):=(zai (n:=4) (by simp) rfl (arr4 fun j => .int .u64 (wd M j))).alloc _
 have hZ0 : ((((w.alloc (.cells #[.int .u64 (wd X 0),.int .u64 (wd X 1),.int .u64 (wd X 2),.int .u64 (wd X 3)] 24)).alloc (.cells #[.int .u64 (wd Y 0),.int .u64 (wd Y 1),.int .u64 (wd Y 2),.int .u64 (wd Y 3)] 24)).alloc (.cells #[.int .u64 (wd M 0),.int .u64 (wd M 1),.int .u64 (wd M 2),.int .u64 (wd M 3)] 24)).alloc (.cells #[.int .u64 0,.int .u64 0,.int .u64 0,.int .u64 0] 24)).rowIs (w.heap.size + 1 + 1 + 1) 24 4 (fun _ => .int .u64 0):=zai (n:=4) (by simp) rfl (arr4 fun _ => .int .u64 0)
 have hB0 : Below w.heap.size w ((((w.alloc (.cells #[.int .u64 (wd X 0),.int .u64 (wd X 1),.int .u64 (wd X 2),.int .u64 (wd X 3)] 24)).alloc (.cells #[.int .u64 (wd Y 0),.int .u64 (wd Y 1),.int .u64 (wd Y 2),.int .u64 (wd Y 3)] 24)).alloc (.cells #[.int .u64 (wd M 0),.int .u64 (wd M 1),.int .u64 (wd M 2),.int .u64 (wd M 3)] 24)).alloc (.cells #[.int .u64 0,.int .u64 0,.int .u64 0,.int .u64 0] 24)):=((((Below.refl _ _).alloc (by simp) _).alloc (by simp) _).alloc (by simp; omega) _).alloc (by simp; omega) _
 go_enter Tryz.func29,Tryz.ntmps29
 obtain ⟨a0,a1,a2,a3⟩:=zag hX0
 obtain ⟨b0,b1,b2,b3⟩:=zag hY0
 go_wp2_with fail
 refine (zhj X Y S true HS.out HU.out hX hY _).mono ?_
 rintro e w1 ⟨rfl,hb1⟩
 clear a0 a1 a2 a3 b0 b1 b2 b3
 have hM1:=zad hM0 hb1 hM0.lt
 have hZ1:=zad hZ0 hb1 hZ0.lt
 have hB1:=hB0.trans (hb1.mono hB0.size)
 have hS2 : (w1.alloc (.cells #[.int .u64 (wd S 0),.int .u64 (wd S 1),.int .u64 (wd S 2),.int .u64 (wd S 3)] 24)).rowIs w1.heap.size 24 4 (fun j => .int .u64 (wd S j)):=zai (n:=4) rfl rfl (arr4 fun j => .int .u64 (wd S j))
 have hM2:=hM1.alloc (.cells #[.int .u64 (wd S 0),.int .u64 (wd S 1),.int .u64 (wd S 2),.int .u64 (wd S 3)] 24)
 have hZ2:=hZ1.alloc (.cells #[.int .u64 (wd S 0),.int .u64 (wd S 1),.int .u64 (wd S 2),.int .u64 (wd S 3)] 24)
 have hB2:=hB1.alloc hB1.size (.cells #[.int .u64 (wd S 0),.int .u64 (wd S 1),.int .u64 (wd S 2),.int .u64 (wd S 3)] 24)
 have nz:=hZ1.lt
 have nm:=hM1.lt
 clear hX0 hY0 hM0 hZ0 hB0 hb1 hM1 hZ1 hB1
 obtain ⟨s0,s1,s2,s3⟩:=zag hS2
 obtain ⟨m0,m1,m2,m3⟩:=zag hM2
 go_wp2_with fail
 refine (zgc S M D HD.out hSt hM _).mono ?_
 rintro e w5 ⟨rfl,hb5⟩
 clear s0 s1 s2 s3 m0 m1 m2 m3
 have hS5:=zad hS2 hb5 hS2.lt
 have hZ5:=zad hZ2 hb5 hZ2.lt
 have hB5:=hB2.trans (hb5.mono hB2.size)
 clear hS2 hM2 hZ2 hB2 hb5
 obtain ⟨t0,t1,t2,t3⟩:=zaq hS5
 obtain ⟨v0,v1,v2,v3⟩:=zag hS5
 go_upto_region 4 with (fail)
 have hTz:=put4 hS5 (fun j => .int .u64 (wd D j))
 have hZz:=zar hZ5 (Nat.ne_of_lt nz) (.int .u64 (wd D 0)) (.int .u64 (wd D 1)) (.int .u64 (wd D 2)) (.int .u64 (wd D 3))
 have hBz:=zas (b:=w1.heap.size) hB5 (by omega) (.int .u64 (wd D 0)) (.int .u64 (wd D 1)) (.int .u64 (wd D 2)) (.int .u64 (wd D 3))
 clear v0 v1 v2 v3 t0 t1 t2 t3 hS5 hZ5 hB5
 generalize ((((w5.setCell ⟨w1.heap.size,0,none⟩ (.int .u64 (wd D 0))).setCell ⟨w1.heap.size,1,none⟩ (.int .u64 (wd D 1))).setCell ⟨w1.heap.size,2,none⟩ (.int .u64 (wd D 2))).setCell ⟨w1.heap.size,3,none⟩ (.int .u64 (wd D 3))) = wz at *
 obtain ⟨p0,p1,p2,p3⟩:=zag hTz
 obtain ⟨d0,d1,d2,d3⟩:=zag hZz
 obtain ⟨f0,f1,f2,f3⟩:=zaq hZz
 go_wp2
 refine bodyPost_ret (results_cell_row rfl _ _ (w.heap.size + 1 + 1 + 1) 24 #[.int .u64 (wd D 0),.int .u64 (wd D 1),.int .u64 (wd D 2),.int .u64 (wd D 3)] (0,0) _ rfl (blk4 (put4 hZz fun j => .int .u64 (wd D j))) Tryz.underlying24 rfl (by kernel_rfl)) rfl ⟨rfl,zas hBz (by omega) _ _ _ _⟩
theorem gadd_less (X Y M S : Nat) (hX : X < top) (hY : Y < top) (hM : M < top) (hS : (X + Y) % top = S) (hu : decide (top ≤ X + Y) = false) (hl : decide (S < M) = true) (w : World) :
  Calls Tryz.prog 29 #[.agg #[.int .u64 (wd X 0),.int .u64 (wd X 1),.int .u64 (wd X 2),.int .u64 (wd X 3)],.agg #[.int .u64 (wd Y 0),.int .u64 (wd Y 1),.int .u64 (wd Y 2),.int .u64 (wd Y 3)],.agg #[.int .u64 (wd M 0),.int .u64 (wd M 1),.int .u64 (wd M 2),.int .u64 (wd M 3)]] w fun e w' => e = .returned (.agg #[.int .u64 (wd S 0),.int .u64 (wd S 1),.int .u64 (wd S 2),.int .u64 (wd S 3)]) ∧ Below w.heap.size w w':=by
 have hSt : S < top:=by rw [← hS]; exact Nat.mod_lt _ zcp
 have HS:=veil hS
 have HU:=veil hu
 have HL:=veil hl
 clear hS hu hl
 have hX0 : ((((w.alloc (.cells #[.int .u64 (wd X 0),.int .u64 (wd X 1),.int .u64 (wd X 2),.int .u64 (wd X 3)] 24)).alloc (.cells #[.int .u64 (wd Y 0),.int .u64 (wd Y 1),.int .u64 (wd Y 2),.int .u64 (wd Y 3)] 24)).alloc (.cells #[.int .u64 (wd M 0),.int .u64 (wd M 1),.int .u64 (wd M 2),.int .u64 (wd M 3)] 24)).alloc (.cells #[.int .u64 0,.int .u64 0,.int .u64 0,.int .u64 0] 24)).rowIs w.heap.size 24 4 (fun j => .int .u64 (wd X j)):=(((zai (n:=4) (by simp) rfl (arr4 fun j => .int .u64 (wd X j))).alloc _).alloc _).alloc _
 have hY0 : ((((w.alloc (.cells #[.int .u64 (wd X 0),.int .u64 (wd X 1),.int .u64 (wd X 2),.int .u64 (wd X 3)] 24)).alloc (.cells #[.int .u64 (wd Y 0),.int .u64 (wd Y 1),.int .u64 (wd Y 2),.int .u64 (wd Y 3)] 24)).alloc (.cells #[.int .u64 (wd M 0),.int .u64 (wd M 1),.int .u64 (wd M 2),.int .u64 (wd M 3)] 24)).alloc (.cells #[.int .u64 0,.int .u64 0,.int .u64 0,.int .u64 0] 24)).rowIs (w.heap.size + 1) 24 4 (fun j => .int .u64 (wd Y j)):=((zai (n:=4) (by simp) rfl (arr4 fun j => .int .u64 (wd Y j))).alloc _).alloc _
 have hM0 : ((((w.alloc (.cells #[.int .u64 (wd X 0),.int .u64 (wd X 1),.int .u64 (wd X 2),.int .u64 (wd X 3)] 24)).alloc (.cells #[.int .u64 (wd Y 0),.int .u64 (wd Y 1),.int .u64 (wd Y 2),.int .u64 (wd Y 3)] 24)).alloc (.cells #[.int .u64 (wd M 0),.int .u64 (wd M 1),.int .u64 (wd M 2),.int .u64 (wd M 3)] 24)).alloc (.cells #[.int .u64 0,.int .u64 0,.int .u64 0,.int .u64 0] 24)).rowIs (w.heap.size + 1 + 1) 24 4 (fun j => .int .u64 (wd M j)):=(zai (n:=4) (by simp) rfl (arr4 fun j => .int .u64 (wd M j))).alloc _
 have hZ0 : ((((w.alloc (.cells #[.int .u64 (wd X 0),.int .u64 (wd X 1),.int .u64 (wd X 2),.int .u64 (wd X 3)] 24)).alloc (.cells #[.int .u64 (wd Y 0),.int .u64 (wd Y 1),.int .u64 (wd Y 2),.int .u64 (wd Y 3)] 24)).alloc (.cells #[.int .u64 (wd M 0),.int .u64 (wd M 1),.int .u64 (wd M 2),.int .u64 (wd M 3)] 24)).alloc (.cells #[.int .u64 0,.int .u64 0,.int .u64 0,.int .u64 0] 24)).rowIs (w.heap.size + 1 + 1 + 1) 24 4 (fun _ => .int .u64 0):=zai (n:=4) (by simp) rfl (arr4 fun _ => .int .u64 0)
 have hB0 : Below w.heap.size w ((((w.alloc (.cells #[.int .u64 (wd X 0),.int .u64 (wd X 1),.int .u64 (wd X 2),.int .u64 (wd X 3)] 24)).alloc (.cells #[.int .u64 (wd Y 0),.int .u64 (wd Y 1),.int .u64 (wd Y 2),.int .u64 (wd Y 3)] 24)).alloc (.cells #[.int .u64 (wd M 0),.int .u64 (wd M 1),.int .u64 (wd M 2),.int .u64 (wd M 3)] 24)).alloc (.cells #[.int .u64 0,.int .u64 0,.int .u64 0,.int .u64 0] 24)):=((((Below.refl _ _).alloc (by simp) _).alloc (by simp) _).alloc (by simp; omega) _).alloc (by simp; omega) _
 go_enter Tryz.func29,Tryz.ntmps29
 obtain ⟨a0,a1,a2,a3⟩:=zag hX0
 obtain ⟨b0,b1,b2,b3⟩:=zag hY0
 go_wp2_with fail
 refine (zhj X Y S false HS.out HU.out hX hY _).mono ?_
 rintro e w1 ⟨rfl,hb1⟩
 clear a0 a1 a2 a3 b0 b1 b2 b3
 have hM1:=zad hM0 hb1 hM0.lt
 have hZ1:=zad hZ0 hb1 hZ0.lt
 have hB1:=hB0.trans (hb1.mono hB0.size)
 have hS2 : (w1.alloc (.cells #[.int .u64 (wd S 0),.int .u64 (wd S 1),.int .u64 (wd S 2),.int .u64 (wd S 3)] 24)).rowIs w1.heap.size 24 4 (fun j => .int .u64 (wd S j)):=zai (n:=4) rfl rfl (arr4 fun j => .int .u64 (wd S j))
 have hM2:=hM1.alloc (.cells #[.int .u64 (wd S 0),.int .u64 (wd S 1),.int .u64 (wd S 2),.int .u64 (wd S 3)] 24)
 have hZ2:=hZ1.alloc (.cells #[.int .u64 (wd S 0),.int .u64 (wd S 1),.int .u64 (wd S 2),.int .u64 (wd S 3)] 24)
 have hB2:=hB1.alloc hB1.size (.cells #[.int .u64 (wd S 0),.int .u64 (wd S 1),.int .u64 (wd S 2),.int .u64 (wd S 3)] 24)
 have nz:=hZ1.lt
 have nm:=hM1.lt
 clear hX0 hY0 hM0 hZ0 hB0 hb1 hM1 hZ1 hB1
 obtain ⟨s0,s1,s2,s3⟩:=zag hS2
 obtain ⟨m0,m1,m2,m3⟩:=zag hM2
 go_wp2_with fail
 refine (zft S M true HL.out hSt hM _).mono ?_
 rintro e w3 ⟨rfl,hb3⟩
 clear s0 s1 s2 s3 m0 m1 m2 m3
 have hS3:=zad hS2 hb3 hS2.lt
 have hM3:=zad hM2 hb3 hM2.lt
 have hZ3:=zad hZ2 hb3 hZ2.lt
 have hB3:=hB2.trans (hb3.mono hB2.size)
 clear hS2 hM2 hZ2 hB2 hb3
 obtain ⟨s0,s1,s2,s3⟩:=zag hS3
 obtain ⟨m0,m1,m2,m3⟩:=zag hM3
 obtain ⟨d0,d1,d2,d3⟩:=zag hZ3
 obtain ⟨f0,f1,f2,f3⟩:=zaq hZ3
 go_wp2
 refine bodyPost_ret (results_cell_row rfl _ _ (w.heap.size + 1 + 1 + 1) 24 #[.int .u64 (wd S 0),.int .u64 (wd S 1),.int .u64 (wd S 2),.int .u64 (wd S 3)] (0,0) _ rfl (blk4 (put4 hZ3 fun j => .int .u64 (wd S j))) Tryz.underlying24 rfl (by kernel_rfl)) rfl ⟨rfl,zas hB3 (by omega) _ _ _ _⟩
theorem gadd_more (X Y M S D : Nat) (hX : X < top) (hY : Y < top) (hM : M < top) (hS : (X + Y) % top = S) (hu : decide (top ≤ X + Y) = false) (hl : decide (S < M) = false) (hD : (S + top - M) % top = D) (w : World) :
  Calls Tryz.prog 29 #[.agg #[.int .u64 (wd X 0),.int .u64 (wd X 1),.int .u64 (wd X 2),.int .u64 (wd X 3)],.agg #[.int .u64 (wd Y 0),.int .u64 (wd Y 1),.int .u64 (wd Y 2),.int .u64 (wd Y 3)],.agg #[.int .u64 (wd M 0),.int .u64 (wd M 1),.int .u64 (wd M 2),.int .u64 (wd M 3)]] w fun e w' => e = .returned (.agg #[.int .u64 (wd D 0),.int .u64 (wd D 1),.int .u64 (wd D 2),.int .u64 (wd D 3)]) ∧ Below w.heap.size w w':=by
 have hSt : S < top:=by rw [← hS]; exact Nat.mod_lt _ zcp
 have HS:=veil hS
 have HU:=veil hu
 have HL:=veil hl
 have HD:=veil hD
 clear hS hu hl hD
 have hX0 : ((((w.alloc (.cells #[.int .u64 (wd X 0),.int .u64 (wd X 1),.int .u64 (wd X 2),.int .u64 (wd X 3)] 24)).alloc (.cells #[.int .u64 (wd Y 0),.int .u64 (wd Y 1),.int .u64 (wd Y 2),.int .u64 (wd Y 3)] 24)).alloc (.cells #[.int .u64 (wd M 0),.int .u64 (wd M 1),.int .u64 (wd M 2),.int .u64 (wd M 3)] 24)).alloc (.cells #[.int .u64 0,.int .u64 0,.int .u64 0,.int .u64 0] 24)).rowIs w.heap.size 24 4 (fun j => .int .u64 (wd X j)):=(((zai (n:=4) (by simp) rfl (arr4 fun j => .int .u64 (wd X j))).alloc _).alloc _).alloc _
 have hY0 : ((((w.alloc (.cells #[.int .u64 (wd X 0),.int .u64 (wd X 1),.int .u64 (wd X 2),.int .u64 (wd X 3)] 24)).alloc (.cells #[.int .u64 (wd Y 0),.int .u64 (wd Y 1),.int .u64 (wd Y 2),.int .u64 (wd Y 3)] 24)).alloc (.cells #[.int .u64 (wd M 0),.int .u64 (wd M 1),.int .u64 (wd M 2),.int .u64 (wd M 3)] 24)).alloc (.cells #[.int .u64 0,.int .u64 0,.int .u64 0,.int .u64 0] 24)).rowIs (w.heap.size + 1) 24 4 (fun j => .int .u64 (wd Y j)):=((zai (n:=4) (by simp) rfl (arr4 fun j => .int .u64 (wd Y j))).alloc _).alloc _
 have hM0 : ((((w.alloc (.cells #[.int .u64 (wd X 0),.int .u64 (wd X 1),.int .u64 (wd X 2),.int .u64 (wd X 3)] 24)).alloc (.cells #[.int .u64 (wd Y 0),.int .u64 (wd Y 1),.int .u64 (wd Y 2),.int .u64 (wd Y 3)] 24)).alloc (.cells #[.int .u64 (wd M 0),.int .u64 (wd M 1),.int .u64 (wd M 2),.int .u64 (wd M 3)] 24)).alloc (.cells #[.int .u64 0,.int .u64 0,.int .u64 0,.int .u64 0] 24)).rowIs (w.heap.size + 1 + 1) 24 4 (fun j => .int .u64 (wd M j)):=(zai (n:=4) (by simp) rfl (arr4 fun j => .int .u64 (wd M j))).alloc _
 have hZ0 : ((((w.alloc (.cells #[.int .u64 (wd X 0),.int .u64 (wd X 1),.int .u64 (wd X 2),.int .u64 (wd X 3)] 24)).alloc (.cells #[.int .u64 (wd Y 0),.int .u64 (wd Y 1),.int .u64 (wd Y 2),.int .u64 (wd Y 3)] 24)).alloc (.cells #[.int .u64 (wd M 0),.int .u64 (wd M 1),.int .u64 (wd M 2),.int .u64 (wd M 3)] 24)).alloc (.cells #[.int .u64 0,.int .u64 0,.int .u64 0,.int .u64 0] 24)).rowIs (w.heap.size + 1 + 1 + 1) 24 4 (fun _ => .int .u64 0):=zai (n:=4) (by simp) rfl (arr4 fun _ => .int .u64 0)
 have hB0 : Below w.heap.size w ((((w.alloc (.cells #[.int .u64 (wd X 0),.int .u64 (wd X 1),.int .u64 (wd X 2),.int .u64 (wd X 3)] 24)).alloc (.cells #[.int .u64 (wd Y 0),.int .u64 (wd Y 1),.int .u64 (wd Y 2),.int .u64 (wd Y 3)] 24)).alloc (.cells #[.int .u64 (wd M 0),.int .u64 (wd M 1),.int .u64 (wd M 2),.int .u64 (wd M 3)] 24)).alloc (.cells #[.int .u64 0,.int .u64 0,.int .u64 0,.int .u64 0] 24)):=((((Below.refl _ _).alloc (by simp) _).alloc (by simp) _).alloc (by simp; omega) _).alloc (by simp; omega) _
 go_enter Tryz.func29,Tryz.ntmps29
 obtain ⟨a0,a1,a2,a3⟩:=zag hX0
 obtain ⟨b0,b1,b2,b3⟩:=zag hY0
 go_wp2_with fail
 refine (zhj X Y S false HS.out HU.out hX hY _).mono ?_
 rintro e w1 ⟨rfl,hb1⟩
 clear a0 a1 a2 a3 b0 b1 b2 b3
 have hM1:=zad hM0 hb1 hM0.lt
 have hZ1:=zad hZ0 hb1 hZ0.lt
 have hB1:=hB0.trans (hb1.mono hB0.size)
 have hS2 : (w1.alloc (.cells #[.int .u64 (wd S 0),.int .u64 (wd S 1),.int .u64 (wd S 2),.int .u64 (wd S 3)] 24)).rowIs w1.heap.size 24 4 (fun j => .int .u64 (wd S j)):=zai (n:=4) rfl rfl (arr4 fun j => .int .u64 (wd S j))
 have hM2:=hM1.alloc (.cells #[.int .u64 (wd S 0),.int .u64 (wd S 1),.int .u64 (wd S 2),.int .u64 (wd S 3)] 24)
 have hZ2:=hZ1.alloc (.cells #[.int .u64 (wd S 0),.int .u64 (wd S 1),.int .u64 (wd S 2),.int .u64 (wd S 3)] 24)
 have hB2:=hB1.alloc hB1.size (.cells #[.int .u64 (wd S 0),.int .u64 (wd S 1),.int .u64 (wd S 2),.int .u64 (wd S 3)] 24)
 have nz:=hZ1.lt
 have nm:=hM1.lt
 clear hX0 hY0 hM0 hZ0 hB0 hb1 hM1 hZ1 hB1
 obtain ⟨s0,s1,s2,s3⟩:=zag hS2
 obtain ⟨m0,m1,m2,m3⟩:=zag hM2
 go_wp2_with fail
 refine (zft S M false HL.out hSt hM _).mono ?_
 rintro e w3 ⟨rfl,hb3⟩
 clear s0 s1 s2 s3 m0 m1 m2 m3
 have hS3:=zad hS2 hb3 hS2.lt
 have hM3:=zad hM2 hb3 hM2.lt
 have hZ3:=zad hZ2 hb3 hZ2.lt
 have hB3:=hB2.trans (hb3.mono hB2.size)
 clear hS2 hM2 hZ2 hB2 hb3
 obtain ⟨s0,s1,s2,s3⟩:=zag hS3
 obtain ⟨m0,m1,m2,m3⟩:=zag hM3
 go_wp2_with fail
 refine (zgc S M D HD.out hSt hM _).mono ?_
 rintro e w5 ⟨rfl,hb5⟩
 clear s0 s1 s2 s3 m0 m1 m2 m3
 have hS5:=zad hS3 hb5 hS3.lt
 have hZ5:=zad hZ3 hb5 hZ3.lt
 have hB5:=hB3.trans (hb5.mono hB3.size)
 clear hS3 hM3 hZ3 hB3 hb5
 obtain ⟨t0,t1,t2,t3⟩:=zaq hS5
 obtain ⟨v0,v1,v2,v3⟩:=zag hS5
 go_upto_region 4 with (fail)
 have hTz:=put4 hS5 (fun j => .int .u64 (wd D j))
 have hZz:=zar hZ5 (Nat.ne_of_lt nz) (.int .u64 (wd D 0)) (.int .u64 (wd D 1)) (.int .u64 (wd D 2)) (.int .u64 (wd D 3))
 have hBz:=zas (b:=w1.heap.size) hB5 (by omega) (.int .u64 (wd D 0)) (.int .u64 (wd D 1)) (.int .u64 (wd D 2)) (.int .u64 (wd D 3))
 clear v0 v1 v2 v3 t0 t1 t2 t3 hS5 hZ5 hB5
 generalize ((((w5.setCell ⟨w1.heap.size,0,none⟩ (.int .u64 (wd D 0))).setCell ⟨w1.heap.size,1,none⟩ (.int .u64 (wd D 1))).setCell ⟨w1.heap.size,2,none⟩ (.int .u64 (wd D 2))).setCell ⟨w1.heap.size,3,none⟩ (.int .u64 (wd D 3))) = wz at *
 obtain ⟨p0,p1,p2,p3⟩:=zag hTz
 obtain ⟨d0,d1,d2,d3⟩:=zag hZz
 obtain ⟨f0,f1,f2,f3⟩:=zaq hZz
 go_wp2
 refine bodyPost_ret (results_cell_row rfl _ _ (w.heap.size + 1 + 1 + 1) 24 #[.int .u64 (wd D 0),.int .u64 (wd D 1),.int .u64 (wd D 2),.int .u64 (wd D 3)] (0,0) _ rfl (blk4 (put4 hZz fun j => .int .u64 (wd D j))) Tryz.underlying24 rfl (by kernel_rfl)) rfl ⟨rfl,zas hBz (by omega) _ _ _ _⟩
theorem zek (X Y M : Nat) (hX : X < M) (hY : Y < M) (hM : M < top) (w : World) :
  Calls Tryz.prog 29 #[.agg #[.int .u64 (wd X 0),.int .u64 (wd X 1),.int .u64 (wd X 2),.int .u64 (wd X 3)],.agg #[.int .u64 (wd Y 0),.int .u64 (wd Y 1),.int .u64 (wd Y 2),.int .u64 (wd Y 3)],.agg #[.int .u64 (wd M 0),.int .u64 (wd M 1),.int .u64 (wd M 2),.int .u64 (wd M 3)]] w fun e w' => e = .returned (.agg #[.int .u64 (wd ((X + Y) % M) 0),.int .u64 (wd ((X + Y) % M) 1),.int .u64 (wd ((X + Y) % M) 2),.int .u64 (wd ((X + Y) % M) 3)]) ∧ Below w.heap.size w w':=by
 have h:=gsum_num hX hY (Nat.le_of_lt hM)
 by_cases h1 : top ≤ X + Y
 ·
  rw [h,if_pos (Or.inl h1)]
  exact gadd_over X Y M _ _ (by omega) (by omega) hM rfl (by simpa using h1) rfl w
 ·
  by_cases h2 : (X + Y) % top < M
  ·
   rw [h,if_neg (by omega)]
   exact gadd_less X Y M _ (by omega) (by omega) hM rfl (by simpa using h1) (by simpa using h2) w
  ·
   rw [h,if_pos (Or.inr h2)]
   exact gadd_more X Y M _ _ (by omega) (by omega) hM rfl (by simpa using h1) (by simpa using h2) rfl w
theorem zdu {wz W : World} (o : Obj) (h : (∀ b o,b < wz.heap.size → W.cell? ⟨b,o,none⟩ = wz.cell? ⟨b,o,none⟩) ∧ Below wz.heap.size wz W) :
  (∀ b i,b < wz.heap.size → (W.alloc o).cell? ⟨b,i,none⟩ = wz.cell? ⟨b,i,none⟩) ∧ Below wz.heap.size wz (W.alloc o) :=
 zde (w':=W.alloc o) ((Below.refl _ _).alloc (Nat.le_refl _) o) h
theorem zej {wz : World} (o : Obj) : (∀ b i,b < wz.heap.size → (wz.alloc o).drew.cell? ⟨b,i,none⟩ = wz.cell? ⟨b,i,none⟩) ∧ Below wz.heap.size wz (wz.alloc o).drew :=
 zdu o (zcz wz)
theorem zfa {wz W : World} {o o' : Obj} (h : (∀ b i,b < wz.heap.size → (W.alloc o).cell? ⟨b,i,none⟩ = wz.cell? ⟨b,i,none⟩) ∧ Below wz.heap.size wz (W.alloc o)) (hs : wz.heap.size ≤ W.heap.size) :
  (∀ b i,b < wz.heap.size → (W.alloc o').cell? ⟨b,i,none⟩ = wz.cell? ⟨b,i,none⟩) ∧ Below wz.heap.size wz (W.alloc o'):=by
 have e : ∀ b,b < wz.heap.size → (W.alloc o').heap[b]? = (W.alloc o).heap[b]?:=fun b hb => (Below.heap_alloc _ _ _ (by omega)).trans (Below.heap_alloc _ _ _ (by omega)).symm
 refine ⟨fun b i hb => Eq.trans ?_ (h.1 b i hb),?_⟩
 ·
  unfold World.cell?; simp only [e b hb]
 ·
  exact ⟨h.2.os,h.2.tape,h.2.output,by have:=h.2.size; simp at this ⊢; omega,fun b hb => (e b hb).trans (h.2.block b hb)⟩
theorem zcc {W w' : World} (hb : Below W.heap.size W w') : (∀ b o,b < W.heap.size → w'.cell? ⟨b,o,none⟩ = W.cell? ⟨b,o,none⟩) ∧ (∀ b o,b < W.heap.size → w'.frozen? ⟨b,o,none⟩ = W.frozen? ⟨b,o,none⟩) ∧ (∀ b,b < W.heap.size → b < w'.heap.size) :=
 ⟨fun b o h => hb.cell (p:=⟨b,o,none⟩) h,fun b o h => hb.frozen (p:=⟨b,o,none⟩) h,fun _ h => Nat.lt_of_lt_of_le h hb.size⟩
theorem zfb {wz W : World} {g : Nat} {v0 v1 v2 v3 : Value} (hg : wz.heap.size ≤ g) (h : (∀ b o,b < wz.heap.size → W.cell? ⟨b,o,none⟩ = wz.cell? ⟨b,o,none⟩) ∧ Below wz.heap.size wz W) :
  (∀ b o,b < wz.heap.size → ((((W.setCell ⟨g,0,none⟩ v0).setCell ⟨g,1,none⟩ v1).setCell ⟨g,2,none⟩ v2).setCell ⟨g,3,none⟩ v3).cell? ⟨b,o,none⟩ = wz.cell? ⟨b,o,none⟩) ∧ Below wz.heap.size wz ((((W.setCell ⟨g,0,none⟩ v0).setCell ⟨g,1,none⟩ v1).setCell ⟨g,2,none⟩ v2).setCell ⟨g,3,none⟩ v3) :=
 ⟨fun b o hlt => (Below.cell (zas (Below.refl wz.heap.size W) hg v0 v1 v2 v3) (p:=⟨b,o,none⟩) hlt).trans (h.1 b o hlt),zas h.2 hg v0 v1 v2 v3⟩
theorem gsub_lo (X Y M D S : Nat) (hX : X < top) (hY : Y < top) (hM : M < top) (hl : decide (X < Y) = true) (hD : (X + top - Y) % top = D) (hS : (D + M) % top = S) (w : World) :
  Calls Tryz.prog 71 #[.agg #[.int .u64 (wd X 0),.int .u64 (wd X 1),.int .u64 (wd X 2),.int .u64 (wd X 3)],.agg #[.int .u64 (wd Y 0),.int .u64 (wd Y 1),.int .u64 (wd Y 2),.int .u64 (wd Y 3)],.agg #[.int .u64 (wd M 0),.int .u64 (wd M 1),.int .u64 (wd M 2),.int .u64 (wd M 3)]] w fun e w' => e = .returned (.agg #[.int .u64 (wd S 0),.int .u64 (wd S 1),.int .u64 (wd S 2),.int .u64 (wd S 3)]) ∧ Below w.heap.size w w':=by
 have HL:=veil hl
 have HD:=veil hD
 have hDt : D < top:=by rw [← hD]; exact Nat.mod_lt _ zcp
 have HS:=veil hS
 clear hS
 clear hl hD
 have hX0 : ((((w.alloc (.cells #[.int .u64 (wd X 0),.int .u64 (wd X 1),.int .u64 (wd X 2),.int .u64 (wd X 3)] 24)).alloc (.cells #[.int .u64 (wd Y 0),.int .u64 (wd Y 1),.int .u64 (wd Y 2),.int .u64 (wd Y 3)] 24)).alloc (.cells #[.int .u64 (wd M 0),.int .u64 (wd M 1),.int .u64 (wd M 2),.int .u64 (wd M 3)] 24)).alloc (.cells #[.int .u64 0,.int .u64 0,.int .u64 0,.int .u64 0] 24)).rowIs w.heap.size 24 4 (fun j => .int .u64 (wd X j)):=(((zai (n:=4) (by simp) rfl (arr4 fun j => .int .u64 (wd X j))).alloc _).alloc _).alloc _
 have hY0 : ((((w.alloc (.cells #[.int .u64 (wd X 0),.int .u64 (wd X 1),.int .u64 (wd X 2),.int .u64 (wd X 3)] 24)).alloc (.cells #[.int .u64 (wd Y 0),.int .u64 (wd Y 1),.int .u64 (wd Y 2),.int .u64 (wd Y 3)] 24)).alloc (.cells #[.int .u64 (wd M 0),.int .u64 (wd M 1),.int .u64 (wd M 2),.int .u64 (wd M 3)] 24)).alloc (.cells #[.int .u64 0,.int .u64 0,.int .u64 0,.int .u64 0] 24)).rowIs (w.heap.size + 1) 24 4 (fun j => .int .u64 (wd Y j)):=((zai (n:=4) (by simp) rfl (arr4 fun j => .int .u64 (wd Y j))).alloc _).alloc _
 have hM0 : ((((w.alloc (.cells #[.int .u64 (wd X 0),.int .u64 (wd X 1),.int .u64 (wd X 2),.int .u64 (wd X 3)] 24)).alloc (.cells #[.int .u64 (wd Y 0),.int .u64 (wd Y 1),.int .u64 (wd Y 2),.int .u64 (wd Y 3)] 24)).alloc (.cells #[.int .u64 (wd M 0),.int .u64 (wd M 1),.int .u64 (wd M 2),.int .u64 (wd M 3)] 24)).alloc (.cells #[.int .u64 0,.int .u64 0,.int .u64 0,.int .u64 0] 24)).rowIs (w.heap.size + 1 + 1) 24 4 (fun j => .int .u64 (wd M j)):=(zai (n:=4) (by simp) rfl (arr4 fun j => .int .u64 (wd M j))).alloc _
 have hZ0 : ((((w.alloc (.cells #[.int .u64 (wd X 0),.int .u64 (wd X 1),.int .u64 (wd X 2),.int .u64 (wd X 3)] 24)).alloc (.cells #[.int .u64 (wd Y 0),.int .u64 (wd Y 1),.int .u64 (wd Y 2),.int .u64 (wd Y 3)] 24)).alloc (.cells #[.int .u64 (wd M 0),.int .u64 (wd M 1),.int .u64 (wd M 2),.int .u64 (wd M 3)] 24)).alloc (.cells #[.int .u64 0,.int .u64 0,.int .u64 0,.int .u64 0] 24)).rowIs (w.heap.size + 1 + 1 + 1) 24 4 (fun _ => .int .u64 0):=zai (n:=4) (by simp) rfl (arr4 fun _ => .int .u64 0)
 have hB0 : Below w.heap.size w ((((w.alloc (.cells #[.int .u64 (wd X 0),.int .u64 (wd X 1),.int .u64 (wd X 2),.int .u64 (wd X 3)] 24)).alloc (.cells #[.int .u64 (wd Y 0),.int .u64 (wd Y 1),.int .u64 (wd Y 2),.int .u64 (wd Y 3)] 24)).alloc (.cells #[.int .u64 (wd M 0),.int .u64 (wd M 1),.int .u64 (wd M 2),.int .u64 (wd M 3)] 24)).alloc (.cells #[.int .u64 0,.int .u64 0,.int .u64 0,.int .u64 0] 24)):=((((Below.refl _ _).alloc (by simp) _).alloc (by simp) _).alloc (by simp; omega) _).alloc (by simp; omega) _
 go_enter Tryz.func71,Tryz.ntmps71
 obtain ⟨a0,a1,a2,a3⟩:=zag hX0
 obtain ⟨b0,b1,b2,b3⟩:=zag hY0
 go_wp2_with fail
 refine (zft X Y true HL.out hX hY _).mono ?_
 rintro e w1 ⟨rfl,hb1⟩
 clear a0 a1 a2 a3 b0 b1 b2 b3
 have hX1:=zad hX0 hb1 hX0.lt
 have hY1:=zad hY0 hb1 hY0.lt
 have hM1:=zad hM0 hb1 hM0.lt
 have hZ1:=zad hZ0 hb1 hZ0.lt
 have hB1:=hB0.trans (hb1.mono hB0.size)
 clear hX0 hY0 hM0 hZ0 hB0 hb1
 obtain ⟨a0,a1,a2,a3⟩:=zag hX1
 obtain ⟨b0,b1,b2,b3⟩:=zag hY1
 obtain ⟨m0,m1,m2,m3⟩:=zag hM1
 go_wp2_with fail
 have z1:=hX1.lt
 have z2:=hY1.lt
 have z3:=hM1.lt
 have k1:=fun W => zgc X Y D HD.out hX hY W
 have k2:=fun W => zhj D M S _ HS.out rfl hDt hM W
 clear hX1 hY1 hM1
 go_region_held3 (fun w' => (∀ b o,b < w1.heap.size → w'.cell? ⟨b,o,none⟩ = w1.cell? ⟨b,o,none⟩) ∧ Below w1.heap.size w1 w')
  (first
   | with_reducible exact zcz _
   | with_reducible exact zej _
   | with_reducible exact zdu _ (by assumption)
   | ((with_reducible refine zfa (by assumption) ?_); first | exact Nat.le_refl _ | exact hbm.size | exact Nat.le_trans hbm.size hbp.size)
   | ((with_reducible refine zfb ?_ (by assumption)); first | exact Nat.le_refl _ | exact hbm.size | exact Nat.le_trans hbm.size hbp.size)
   | with_reducible exact zde (by assumption) (by assumption)
   | fail "no arm")
  (first
   | (go_at_call 70; refine (k1 _).mono ?_; rintro e wm ⟨rfl,hbm⟩; obtain ⟨hmc,hmf,hml⟩:=zcc hbm)
   | (go_at_call 73; refine (k2 _).mono ?_; rintro e wp ⟨rfl,hbp⟩; obtain ⟨hpc,hpf,hpl⟩:=zcc hbp))
 all_goals rename (_ ∧ Below w1.heap.size w1 _) => hHeld
 ·
  have hT : (wp.alloc (.cells #[.int .u64 (wd S 0),.int .u64 (wd S 1),.int .u64 (wd S 2),.int .u64 (wd S 3)] 24)).rowIs wp.heap.size 24 4 (fun j => .int .u64 (wd S j)):=zai (n:=4) rfl rfl (arr4 fun j => .int .u64 (wd S j))
  have hZz:=zad hZ1 hHeld.2 hZ1.lt
  have hBz:=hB1.trans (hHeld.2.mono hB1.size)
  clear hHeld
  generalize wp.alloc (.cells #[.int .u64 (wd S 0),.int .u64 (wd S 1),.int .u64 (wd S 2),.int .u64 (wd S 3)] 24) = wz at *
  obtain ⟨p0,p1,p2,p3⟩:=zag hT
  obtain ⟨d0,d1,d2,d3⟩:=zag hZz
  obtain ⟨f0,f1,f2,f3⟩:=zaq hZz
  go_wp2
  refine bodyPost_ret (results_cell_row rfl _ _ (w.heap.size + 1 + 1 + 1) 24 #[.int .u64 (wd S 0),.int .u64 (wd S 1),.int .u64 (wd S 2),.int .u64 (wd S 3)] (0,0) _ rfl (blk4 (put4 hZz fun j => .int .u64 (wd S j))) Tryz.underlying24 rfl (by kernel_rfl)) rfl ⟨rfl,zas hBz (by omega) _ _ _ _⟩
 ·
  have hT : ((((wp.setCell ⟨wm.heap.size,0,none⟩ (.int .u64 (wd S 0))).setCell ⟨wm.heap.size,1,none⟩ (.int .u64 (wd S 1))).setCell ⟨wm.heap.size,2,none⟩ (.int .u64 (wd S 2))).setCell ⟨wm.heap.size,3,none⟩ (.int .u64 (wd S 3))).rowIs wm.heap.size 24 4 (fun j => .int .u64 (wd S j)):=put4 (zad (zai (n:=4) (f:=fun _ => .int .u64 0) rfl rfl (arr4 fun _ => .int .u64 0)) hbp (by simp)) fun j => .int .u64 (wd S j)
  have hZz:=zad hZ1 hHeld.2 hZ1.lt
  have hBz:=hB1.trans (hHeld.2.mono hB1.size)
  clear hHeld
  generalize (((wp.setCell ⟨wm.heap.size,0,none⟩ (.int .u64 (wd S 0))).setCell ⟨wm.heap.size,1,none⟩ (.int .u64 (wd S 1))).setCell ⟨wm.heap.size,2,none⟩ (.int .u64 (wd S 2))).setCell ⟨wm.heap.size,3,none⟩ (.int .u64 (wd S 3)) = wz at *
  obtain ⟨p0,p1,p2,p3⟩:=zag hT
  obtain ⟨d0,d1,d2,d3⟩:=zag hZz
  obtain ⟨f0,f1,f2,f3⟩:=zaq hZz
  go_wp2
  refine bodyPost_ret (results_cell_row rfl _ _ (w.heap.size + 1 + 1 + 1) 24 #[.int .u64 (wd S 0),.int .u64 (wd S 1),.int .u64 (wd S 2),.int .u64 (wd S 3)] (0,0) _ rfl (blk4 (put4 hZz fun j => .int .u64 (wd S j))) Tryz.underlying24 rfl (by kernel_rfl)) rfl ⟨rfl,zas hBz (by omega) _ _ _ _⟩
 ·
  have hT : ((((wp.setCell ⟨w1.heap.size,0,none⟩ (.int .u64 (wd S 0))).setCell ⟨w1.heap.size,1,none⟩ (.int .u64 (wd S 1))).setCell ⟨w1.heap.size,2,none⟩ (.int .u64 (wd S 2))).setCell ⟨w1.heap.size,3,none⟩ (.int .u64 (wd S 3))).rowIs w1.heap.size 24 4 (fun j => .int .u64 (wd S j)):=put4 (zad (zad ((zai (n:=4) (f:=fun _ => .int .u64 0) rfl rfl (arr4 fun _ => .int .u64 0)).drew) hbm (by simp)) hbp (Nat.lt_of_lt_of_le (by simp) hbm.size)) fun j => .int .u64 (wd S j)
  have hZz:=zad hZ1 hHeld.2 hZ1.lt
  have hBz:=hB1.trans (hHeld.2.mono hB1.size)
  clear hHeld
  generalize (((wp.setCell ⟨w1.heap.size,0,none⟩ (.int .u64 (wd S 0))).setCell ⟨w1.heap.size,1,none⟩ (.int .u64 (wd S 1))).setCell ⟨w1.heap.size,2,none⟩ (.int .u64 (wd S 2))).setCell ⟨w1.heap.size,3,none⟩ (.int .u64 (wd S 3)) = wz at *
  obtain ⟨p0,p1,p2,p3⟩:=zag hT
  obtain ⟨d0,d1,d2,d3⟩:=zag hZz
  obtain ⟨f0,f1,f2,f3⟩:=zaq hZz
  go_wp2
  refine bodyPost_ret (results_cell_row rfl _ _ (w.heap.size + 1 + 1 + 1) 24 #[.int .u64 (wd S 0),.int .u64 (wd S 1),.int .u64 (wd S 2),.int .u64 (wd S 3)] (0,0) _ rfl (blk4 (put4 hZz fun j => .int .u64 (wd S j))) Tryz.underlying24 rfl (by kernel_rfl)) rfl ⟨rfl,zas hBz (by omega) _ _ _ _⟩
theorem gsub_hi (X Y M D : Nat) (hX : X < top) (hY : Y < top) (hl : decide (X < Y) = false) (hD : (X + top - Y) % top = D) (w : World) :
  Calls Tryz.prog 71 #[.agg #[.int .u64 (wd X 0),.int .u64 (wd X 1),.int .u64 (wd X 2),.int .u64 (wd X 3)],.agg #[.int .u64 (wd Y 0),.int .u64 (wd Y 1),.int .u64 (wd Y 2),.int .u64 (wd Y 3)],.agg #[.int .u64 (wd M 0),.int .u64 (wd M 1),.int .u64 (wd M 2),.int .u64 (wd M 3)]] w fun e w' => e = .returned (.agg #[.int .u64 (wd D 0),.int .u64 (wd D 1),.int .u64 (wd D 2),.int .u64 (wd D 3)]) ∧ Below w.heap.size w w':=by
 have HL:=veil hl
 have HD:=veil hD
 clear hl hD
 have hX0 : ((((w.alloc (.cells #[.int .u64 (wd X 0),.int .u64 (wd X 1),.int .u64 (wd X 2),.int .u64 (wd X 3)] 24)).alloc (.cells #[.int .u64 (wd Y 0),.int .u64 (wd Y 1),.int .u64 (wd Y 2),.int .u64 (wd Y 3)] 24)).alloc (.cells #[.int .u64 (wd M 0),.int .u64 (wd M 1),.int .u64 (wd M 2),.int .u64 (wd M 3)] 24)).alloc (.cells #[.int .u64 0,.int .u64 0,.int .u64 0,.int .u64 0] 24)).rowIs w.heap.size 24 4 (fun j => .int .u64 (wd X j)):=(((zai (n:=4) (by simp) rfl (arr4 fun j => .int .u64 (wd X j))).alloc _).alloc _).alloc _
 have hY0 : ((((w.alloc (.cells #[.int .u64 (wd X 0),.int .u64 (wd X 1),.int .u64 (wd X 2),.int .u64 (wd X 3)] 24)).alloc (.cells #[.int .u64 (wd Y 0),.int .u64 (wd Y 1),.int .u64 (wd Y 2),.int .u64 (wd Y 3)] 24)).alloc (.cells #[.int .u64 (wd M 0),.int .u64 (wd M 1),.int .u64 (wd M 2),.int .u64 (wd M 3)] 24)).alloc (.cells #[.int .u64 0,.int .u64 0,.int .u64 0,.int .u64 0] 24)).rowIs (w.heap.size + 1) 24 4 (fun j => .int .u64 (wd Y j)):=((zai (n:=4) (by simp) rfl (arr4 fun j => .int .u64 (wd Y j))).alloc _).alloc _
 have hM0 : ((((w.alloc (.cells #[.int .u64 (wd X 0),.int .u64 (wd X 1),.int .u64 (wd X 2),.int .u64 (wd X 3)] 24)).alloc (.cells #[.int .u64 (wd Y 0),.int .u64 (wd Y 1),.int .u64 (wd Y 2),.int .u64 (wd Y 3)] 24)).alloc (.cells #[.int .u64 (wd M 0),.int .u64 (wd M 1),.int .u64 (wd M 2),.int .u64 (wd M 3)] 24)).alloc (.cells #[.int .u64 0,.int .u64 0,.int .u64 0,.int .u64 0] 24)).rowIs (w.heap.size + 1 + 1) 24 4 (fun j => .int .u64 (wd M j)):=(zai (n:=4) (by simp) rfl (arr4 fun j => .int .u64 (wd M j))).alloc _
 have hZ0 : ((((w.alloc (.cells #[.int .u64 (wd X 0),.int .u64 (wd X 1),.int .u64 (wd X 2),.int .u64 (wd X 3)] 24)).alloc (.cells #[.int .u64 (wd Y 0),.int .u64 (wd Y 1),.int .u64 (wd Y 2),.int .u64 (wd Y 3)] 24)).alloc (.cells #[.int .u64 (wd M 0),.int .u64 (wd M 1),.int .u64 (wd M 2),.int .u64 (wd M 3)] 24)).alloc (.cells #[.int .u64 0,.int .u64 0,.int .u64 0,.int .u64 0] 24)).rowIs (w.heap.size + 1 + 1 + 1) 24 4 (fun _ => .int .u64 0):=zai (n:=4) (by simp) rfl (arr4 fun _ => .int .u64 0)
 have hB0 : Below w.heap.size w ((((w.alloc (.cells #[.int .u64 (wd X 0),.int .u64 (wd X 1),.int .u64 (wd X 2),.int .u64 (wd X 3)] 24)).alloc (.cells #[.int .u64 (wd Y 0),.int .u64 (wd Y 1),.int .u64 (wd Y 2),.int .u64 (wd Y 3)] 24)).alloc (.cells #[.int .u64 (wd M 0),.int .u64 (wd M 1),.int .u64 (wd M 2),.int .u64 (wd M 3)] 24)).alloc (.cells #[.int .u64 0,.int .u64 0,.int .u64 0,.int .u64 0] 24)):=((((Below.refl _ _).alloc (by simp) _).alloc (by simp) _).alloc (by simp; omega) _).alloc (by simp; omega) _
 go_enter Tryz.func71,Tryz.ntmps71
 obtain ⟨a0,a1,a2,a3⟩:=zag hX0
 obtain ⟨b0,b1,b2,b3⟩:=zag hY0
 go_wp2_with fail
 refine (zft X Y false HL.out hX hY _).mono ?_
 rintro e w1 ⟨rfl,hb1⟩
 clear a0 a1 a2 a3 b0 b1 b2 b3
 have hX1:=zad hX0 hb1 hX0.lt
 have hY1:=zad hY0 hb1 hY0.lt
 have hM1:=zad hM0 hb1 hM0.lt
 have hZ1:=zad hZ0 hb1 hZ0.lt
 have hB1:=hB0.trans (hb1.mono hB0.size)
 clear hX0 hY0 hM0 hZ0 hB0 hb1
 obtain ⟨a0,a1,a2,a3⟩:=zag hX1
 obtain ⟨b0,b1,b2,b3⟩:=zag hY1
 obtain ⟨m0,m1,m2,m3⟩:=zag hM1
 go_wp2_with fail
 refine (zgc X Y D HD.out hX hY _).mono ?_
 rintro e w3 ⟨rfl,hb3⟩
 have hZz:=zad hZ1 hb3 hZ1.lt
 have hBz:=hB1.trans (hb3.mono hB1.size)
 clear a0 a1 a2 a3 b0 b1 b2 b3 hX1 hY1 hM1 hZ1 hB1 hb3 m0 m1 m2 m3
 obtain ⟨d0,d1,d2,d3⟩:=zag hZz
 obtain ⟨f0,f1,f2,f3⟩:=zaq hZz
 go_wp2
 refine bodyPost_ret (results_cell_row rfl _ _ (w.heap.size + 1 + 1 + 1) 24 #[.int .u64 (wd D 0),.int .u64 (wd D 1),.int .u64 (wd D 2),.int .u64 (wd D 3)] (0,0) _ rfl (blk4 (put4 hZz fun j => .int .u64 (wd D j))) Tryz.underlying24 rfl (by kernel_rfl)) rfl ⟨rfl,zas hBz (by omega) _ _ _ _⟩
theorem zhy (X Y M : Nat) (hX : X < M) (hY : Y < M) (hM : M < top) (w : World) :
  Calls Tryz.prog 71 #[.agg #[.int .u64 (wd X 0),.int .u64 (wd X 1),.int .u64 (wd X 2),.int .u64 (wd X 3)],.agg #[.int .u64 (wd Y 0),.int .u64 (wd Y 1),.int .u64 (wd Y 2),.int .u64 (wd Y 3)],.agg #[.int .u64 (wd M 0),.int .u64 (wd M 1),.int .u64 (wd M 2),.int .u64 (wd M 3)]] w fun e w' => e = .returned (.agg #[.int .u64 (wd ((X + M - Y) % M) 0),.int .u64 (wd ((X + M - Y) % M) 1),.int .u64 (wd ((X + M - Y) % M) 2),.int .u64 (wd ((X + M - Y) % M) 3)]) ∧ Below w.heap.size w w':=by
 by_cases h : X < Y
 ·
  exact gsub_lo X Y M _ _ (by omega) (by omega) hM (by simpa using h) rfl (by rw [Nat.mod_eq_of_lt (a:=X + top - Y) (by omega),show X + top - Y + M = (X + M - Y) + top by omega,Nat.add_mod_right,Nat.mod_eq_of_lt (by omega),Nat.mod_eq_of_lt (by omega)]) w
 ·
  exact gsub_hi X Y M _ (by omega) (by omega) (by simpa using h) (by rw [show X + top - Y = (X - Y) + top by omega,Nat.add_mod_right,show X + M - Y = (X - Y) + M by omega,Nat.add_mod_right,Nat.mod_eq_of_lt (by omega),Nat.mod_eq_of_lt (by omega)]) w
def mw (Y i k : Nat) : Nat:=dg w64 Y i * 2 ^ k % 2 ^ 64
theorem mw_zero (Y i : Nat) : mw Y i 0 = dg w64 Y i:=by
 have:=dg_lt zbd Y i
 unfold mw; rw [Nat.pow_zero,Nat.mul_one]; exact Nat.mod_eq_of_lt this
theorem mw_lt (Y i k : Nat) : mw Y i k < 18446744073709551616:=by
 unfold mw; exact Nat.mod_lt _ (by decide)
theorem mw_succ (Y i k : Nat) : (mw Y i k + mw Y i k) % 18446744073709551616 = mw Y i (k + 1):=by
 unfold mw
 show _ % 2 ^ 64 = _
 rw [← Nat.add_mod,Nat.pow_succ 2 k,← Nat.mul_assoc,Nat.mul_two]
theorem mw_top (Y i k : Nat) (hk : k < 64) : 9223372036854775808 ≤ mw Y i k ↔ Y / 2 ^ (64 * i + (63 - k)) % 2 = 1:=by
 unfold mw dg
 obtain ⟨j,hj⟩ : ∃ j,j = 63 - k:=⟨_,rfl⟩
 have e64 : (2 : Nat) ^ 64 = 2 ^ (j + 1) * 2 ^ k:=by rw [← Nat.pow_add]; congr 1; omega
 have e63 : (9223372036854775808 : Nat) = 2 ^ j * 2 ^ k:=by rw [← Nat.pow_add,show j + k = 63 by omega]
 have hp : 0 < 2 ^ k:=Nat.pow_pos (by omega)
 have hq : 0 < 2 ^ j:=Nat.pow_pos (by omega)
 have ew : w64 ^ i = 2 ^ (64 * i):=by unfold w64; rw [show (18446744073709551616 : Nat) = 2 ^ 64 from rfl,← Nat.pow_mul]
 rw [ew,← hj,e64,e63,Nat.mul_mod_mul_right]
 rw [Nat.pow_add 2 (64 * i),← Nat.div_div_eq_div_mul]
 generalize Y / 2 ^ (64 * i) = a
 have h1 : a % w64 % 2 ^ (j + 1) = a % 2 ^ (j + 1):=by
  apply Nat.mod_mod_of_dvd
  unfold w64; rw [show (18446744073709551616 : Nat) = 2 ^ (j + 1) * 2 ^ k from e64]
  exact Nat.dvd_mul_right _ _
 rw [h1,Nat.pow_succ,Nat.mod_mul]
 have h2:=Nat.mod_lt a hq
 generalize a / 2 ^ j = c
 generalize a % 2 ^ j = d at *
 generalize 2 ^ j = p at *
 generalize 2 ^ k = q at *
 constructor
 ·
  intro h
  have h3:=Nat.le_of_mul_le_mul_right h hp
  have : c % 2 = 0 ∨ c % 2 = 1:=by omega
  rcases this with e | e
  ·
   rw [e] at h3; omega
  ·
   exact e
 ·
  intro h
  rw [h]
  exact Nat.mul_le_mul_right _ (by omega)
theorem bits_step (Y n : Nat) : Y / 2 ^ n = 2 * (Y / 2 ^ (n + 1)) + Y / 2 ^ n % 2:=by
 rw [Nat.pow_succ,← Nat.div_div_eq_div_mul]; omega
def acc (X Y M n : Nat) : Nat:=X * (Y / 2 ^ n) % M
theorem acc_lt {X Y M n : Nat} (h : 0 < M) : acc X Y M n < M:=Nat.mod_lt _ h
theorem acc_twice (X Y M n : Nat) (h : Y / 2 ^ n % 2 = 0) : (acc X Y M (n + 1) + acc X Y M (n + 1)) % M = acc X Y M n:=by
 unfold acc
 rw [bits_step Y n,h,← Nat.add_mod]
 congr 1
 generalize Y / 2 ^ (n + 1) = q
 rw [Nat.add_zero,Nat.mul_left_comm]; omega
theorem acc_more (X Y M n : Nat) (h : Y / 2 ^ n % 2 = 1) : ((acc X Y M (n + 1) + acc X Y M (n + 1)) % M + X) % M = acc X Y M n:=by
 unfold acc
 rw [bits_step Y n,h,← Nat.add_mod,Nat.mod_add_mod]
 congr 1
 rw [Nat.mul_add,Nat.mul_left_comm,Nat.mul_one]; omega
theorem acc_start (X Y M n : Nat) (h : Y < 2 ^ n) : acc X Y M n = 0:=by
 unfold acc; rw [Nat.div_eq_of_lt h]; simp
theorem acc_end (X Y M : Nat) : acc X Y M 0 = X * Y % M:=by
 unfold acc; simp
theorem num_wide (X : Nat) (h : X < top) : wd X 4 = 0 ∧ wd X 5 = 0 ∧ wd X 6 = 0 ∧ wd X 7 = 0:=by
 have e : ∀ i,4 ≤ i → wd X i = 0:=by
  intro i hi
  unfold wd dg
  rw [Nat.div_eq_of_lt (Nat.lt_of_lt_of_le h (Nat.pow_le_pow_right zbd hi))]; rfl
 exact ⟨e 4 (by omega),e 5 (by omega),e 6 (by omega),e 7 (by omega)⟩
end Go.Proofs.YtmfjigcdhijkjaaGreatDoor
