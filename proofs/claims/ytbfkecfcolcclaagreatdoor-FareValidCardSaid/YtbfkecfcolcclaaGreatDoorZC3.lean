/-
  Of Of Cq Au4 Add Sub Cmp Pt Q1 Ce G8 G9 QA J1.
-/
import Derived.Test.YtbfkecfcolcclaaGreatDoorRows
import Derived.WalkKit
import Derived.WalkSpells
import Derived.WalkLawsBesides
import Derived.Deep.LoopGhost
import Derived.Deep.RegionWith
import Derived.Deep.QuietTactic
import Derived.BigQuiet
import Derived.BigRegion
import Derived.Deep.WholeRow
import Derived.DeepKeys
import Derived.Deep.CutRange
import Derived.Deep.RegionHeld3
import Derived.Deep.Cut
import Derived.Test.YtbfkecfcolcclaaGreatDoorZC1
import Derived.Test.YtbfkecfcolcclaaGreatDoorZC2
set_option maxRecDepth 1000000
set_option maxHeartbeats 20000000
namespace Go.Proofs.YtbfkecfcolcclaaGreatDoor
open Go.RowKit
open Go.Value renaming int → vI
open Go.IntKind renaming u64 → vU
open Go.Act renaming put → aP
open List renaming setIfInBounds_toArray → lA, set_cons_zero → lZ, set_cons_succ → lS
def lev (z : Nat → Nat) : Nat → Nat
 | 0 => 0
 | i + 1 => lev z i + z i * 256 ^ i
theorem lev_lt {z : Nat → Nat} (hz : ∀ j,z j < 256) : ∀ i,lev z i < 256 ^ i
 | 0 => by simp [lev]
 | i + 1 => by
  have h:=lev_lt hz i
  have h2 : z i * 256 ^ i ≤ 255 * 256 ^ i:=Nat.mul_le_mul_right _ (by have:=hz i; omega)
  show lev z i + z i * 256 ^ i < _
  rw [Nat.pow_succ]
  omega
theorem dg_put (m q r L c : Nat) (hr : r < m) (hL : L < 256 ^ (m * q + r)) (hc : c < 256) (j : Nat) :
  dg (256 ^ m) (L + c * 256 ^ (m * q + r)) j = if j = q then dg (256 ^ m) L j + c * 256 ^ r else dg (256 ^ m) L j:=by
 have hB : 0 < 256 ^ m:=Nat.pow_pos (by omega)
 have hp : ∀ k,0 < (256 ^ m) ^ k:=fun k => Nat.pow_pos hB
 have e : 256 ^ (m * q + r) = (256 ^ m) ^ q * 256 ^ r:=by rw [Nat.pow_add,Nat.pow_mul]
 have hrm : 256 ^ r * 256 ≤ 256 ^ m:=by rw [← Nat.pow_succ]; exact Nat.pow_le_pow_right (by omega) hr
 rw [e] at hL ⊢
 have hLq : L / (256 ^ m) ^ q < 256 ^ r:=by rw [Nat.div_lt_iff_lt_mul (hp q),Nat.mul_comm]; exact hL
 have hcr : c * 256 ^ r ≤ 255 * 256 ^ r:=Nat.mul_le_mul_right _ (by omega)
 rw [show c * ((256 ^ m) ^ q * 256 ^ r) = (256 ^ m) ^ q * (c * 256 ^ r) by rw [Nat.mul_left_comm]]
 by_cases hj : j = q
 ·
  subst hj
  rw [if_pos rfl]
  unfold dg
  rw [Nat.add_mul_div_left _ _ (hp j),Nat.mod_eq_of_lt (by omega),Nat.mod_eq_of_lt (by omega)]
 ·
  rw [if_neg hj]
  by_cases hlt : j < q
  ·
   rw [← zcs _ q j hlt,Nat.add_mul_mod_self_left,zcs _ q j hlt]
  ·
   have hjq : q + 1 ≤ j:=by omega
   have hle : (256 ^ m) ^ (q + 1) ≤ (256 ^ m) ^ j:=Nat.pow_le_pow_right hB hjq
   rw [Nat.pow_succ] at hle
   have h1 : (256 ^ m) ^ q * (256 ^ r + c * 256 ^ r) ≤ (256 ^ m) ^ q * 256 ^ m:=Nat.mul_le_mul_left _ (by omega)
   rw [Nat.mul_add] at h1
   unfold dg
   rw [Nat.div_eq_of_lt (show L < _ by omega),Nat.div_eq_of_lt (show L + (256 ^ m) ^ q * (c * 256 ^ r) < _ by omega)]
theorem w64_bytes : w64 = 256 ^ 8:=by decide
theorem two_256 (r : Nat) : 2 ^ (r * 8) = 256 ^ r:=by rw [Nat.mul_comm,Nat.pow_mul]
theorem wd_put (L c k j : Nat) (hL : L < 256 ^ k) (hc : c < 256) : wd (L + c * 256 ^ k) j = if j = k / 8 then wd L j + (c * 256 ^ (k % 8) : Nat) else wd L j:=by
 have h:=dg_put 8 (k / 8) (k % 8) L c (Nat.mod_lt _ (by omega)) (by rw [Nat.div_add_mod]; exact hL) hc j
 rw [Nat.div_add_mod,← w64_bytes] at h
 unfold wd
 rw [h]
 split
 ·
  rw [Int.natCast_add]
 ·
  rfl
theorem of_word (L c k : Nat) (hL : L < 256 ^ k) (hc : c < 256) : bits .or .u64 (wd L (k / 8)) (IntKind.u64.wrap ((c : Int) * 2 ^ (k % 8 * 8))) = wd (L + c * 256 ^ k) (k / 8):=by
 have hr : k % 8 < 8:=Nat.mod_lt _ (by omega)
 have hp : 256 ^ (k % 8) ≤ 256 ^ 7:=Nat.pow_le_pow_right (by omega) (by omega)
 have h7 : (256 : Nat) ^ 7 = 72057594037927936:=by decide
 have hcr : c * 256 ^ (k % 8) ≤ 255 * 256 ^ (k % 8):=Nat.mul_le_mul_right _ (by omega)
 have hq : dg w64 L (k / 8) < 256 ^ (k % 8):=by
  have e : 256 ^ k = w64 ^ (k / 8) * 256 ^ (k % 8):=by
   rw [w64_bytes,← Nat.pow_mul,← Nat.pow_add,Nat.div_add_mod]
  unfold dg
  refine Nat.lt_of_le_of_lt (Nat.mod_le _ _) ?_
  rw [Nat.div_lt_iff_lt_mul (Nat.pow_pos zak),Nat.mul_comm,← e]
  exact hL
 have ec : (c : Int) * 2 ^ (k % 8 * 8) = ((c * 256 ^ (k % 8) : Nat) : Int):=by
  rw [← two_256,Int.natCast_mul,Int.natCast_pow]
  rfl
 rw [wd_put L c k _ hL hc,if_pos rfl,ec,IntKind.wrap_u64]
 unfold wd
 rw [show ((c * 256 ^ (k % 8) : Nat) : Int) % 18446744073709551616 = ((c * 256 ^ (k % 8) : Nat) : Int) by omega]
 rw [u64_or_nat _ _ (by omega) (by omega),Nat.or_comm,nat_join (8 * (k % 8)) _ _ (by rw [Nat.mul_comm 8,two_256]; exact Nat.mul_mod_left _ _) (by rw [Nat.mul_comm 8,two_256]; exact hq)]
 omega
theorem of_step (z : Nat → Nat) (k : Nat) (hz : ∀ j,z j < 256) (i : Nat) :
  (if i = k / 8 then Value.int .u64 (wd (lev z k + z k * 256 ^ k) (k / 8)) else Value.int .u64 (wd (lev z k) i)) = Value.int .u64 (wd (lev z (k + 1)) i):=by
 show _ = Value.int .u64 (wd (lev z k + z k * 256 ^ k) i)
 by_cases h : i = k / 8
 ·
  rw [if_pos h,h]
 ·
  rw [if_neg h,wd_put _ _ _ _ (lev_lt hz k) (hz k),if_neg h]
theorem wd_zero (i : Nat) : wd 0 i = 0:=by unfold wd dg; simp
theorem of_some (b o n c : Nat) (y : Nat → Nat) (hy : ∀ j,y j < 256) (hn : n ≤ 32) (w : World) (hb : b < w.heap.size) (hcell : ∀ j,j < n → w.cell? ⟨b,o + j,none⟩ = some (.int .u8 (y j))) :
  Calls Tryz.prog 92 #[.slice (some ⟨b,o,none⟩) n c] w fun e w' => e = .returned (.tuple #[.agg #[vI vU (wd (lev (fun k => y (n - 1 - k)) n) 0),vI vU (wd (lev (fun k => y (n - 1 - k)) n) 1),vI vU (wd (lev (fun k => y (n - 1 - k)) n) 2),vI vU (wd (lev (fun k => y (n - 1 - k)) n) 3)],.nilIface]) ∧ Below w.heap.size w w':=by
 have HY:=veil hy
 have HC:=veil hcell
 clear hy hcell
 have hn' : (n : Int) ≤ 32:=by omega
 go_enter Tryz.func92,Tryz.ntmps92
 go_wp2
 go_loopw [13] (fun i wr => ∃ k : Nat,k ≤ n ∧ i = .int .i64 k ∧ wr.rowIs w.heap.size 58 4 (fun _ => .int .u64 0) ∧ wr.rowIs (w.heap.size + 1) 58 4 (fun j => .int .u64 (wd (lev (fun k => y (n - 1 - k)) k) j)) ∧ Below w.heap.size w wr)
  (fun i _ => n - (intOf i).toNat)
 case atStart => exact ⟨0,by omega,rfl,(zaf (n:=4) rfl rfl (arr4 fun _ => .int .u64 0)).alloc _,(zaf (n:=4) (f:=fun _ => .int .u64 0) (by simp) rfl (arr4 fun _ => .int .u64 0)).congr (fun i _ => by rw [lev,wd_zero]),((Below.refl _ _).alloc (by simp) _).alloc (by simp) _⟩
 case round =>
  obtain ⟨k,hk,rfl,hR,hS,hbel⟩:=hrel
  by_cases hlt : k < n
  ·
   have hk8 : k / 8 < 4:=by omega
   have c1:=hS.cell hk8
   have f1:=hS.frozen (k / 8)
   obtain ⟨j,hj⟩ : ∃ j,j = n - 1 - k:=⟨_,rfl⟩
   have hji : (n : Int) - 1 - (k : Int) = (j : Int):=by omega
   have hjn : (j : Int) < (n : Int):=by omega
   have hkn : (k : Int) < (n : Int):=by omega
   have c2:=(hbel.cell (p:=⟨b,o + j,none⟩) hb).trans (HC.out j (by omega))
   have l1:=wd_lo (lev (fun k => y (n - 1 - k)) k) (k / 8)
   have u1:=wd_le (lev (fun k => y (n - 1 - k)) k) (k / 8)
   have u2 : (y j : Int) ≤ 255:=by have:=HY.out j; omega
   have hst:=of_step (fun k => y (n - 1 - k)) k (fun j => HY.out _)
   have HS:=veil hst
   clear hst
   have HJ:=veil hj
   clear hj
   go_wp2
   go_region
   all_goals
    go_wp2
    go_roundw
    case rel =>
     rw [show y j = y (n - 1 - k) by rw [HJ.out],of_word _ _ _ (lev_lt (fun j => HY.out _) k) (HY.out _)]
     exact ⟨k + 1,by omega,by go_num,(zam hR (by omega) _).drew,((hS.set (k / 8) _).congr fun i _ => HS.out i).drew,(zad hbel (by omega) _).drew⟩
    case measure => simp [intOf]; omega
  ·
   obtain rfl : k = n:=by omega
   obtain ⟨c0,c1,c2,c3⟩:=zag hS
   obtain ⟨d0,d1,d2,d3⟩:=zag hR
   obtain ⟨f0,f1,f2,f3⟩:=zay hR
   go_wp2
   refine bodyPost_ret (zbv rfl _ _ w.heap.size 58 #[vI vU (wd (lev (fun j => y (k - 1 - j)) k) 0),vI vU (wd (lev (fun j => y (k - 1 - j)) k) 1),vI vU (wd (lev (fun j => y (k - 1 - j)) k) 2),vI vU (wd (lev (fun j => y (k - 1 - j)) k) 3)] (0,0) 4 56 rfl (blk4 (put4 hR fun j => .int .u64 (wd (lev (fun j => y (k - 1 - j)) k) j))) Tryz.underlying58 (by kernel_rfl)) rfl ⟨rfl,zan hbel (Nat.le_refl _) _ _ _ _⟩
def qc (x y : Nat) (f : Bool) : Array Value:=#[vI vU (wd x 0),vI vU (wd x 1),vI vU (wd x 2),vI vU (wd x 3),vI vU (wd y 0),vI vU (wd y 1),vI vU (wd y 2),vI vU (wd y 3),.bool (f)]
def qv (x y : Nat) (f : Bool) : Value:=.agg (qc x y f)
theorem qc_one (x y : Nat) (f : Bool) : (qc x y f).all (·.oneCell') = true:=by simp [qc,Value.oneCell']
theorem iT (x y : Nat) (f : Bool) : (Tryz.prog.info? 60).map (·.size) = some (qc x y f).size:=by kernel_rfl
section
variable (g : Nat) (W : World)
end
section
variable {P : Program} {T : TypeId} {X Y : Operand} {W : World}
theorem pred_run {a b : Int} (h : a - 1 = b) (h0 : 0 ≤ a) (h1 : a < 4294967296) : (binK .sub T X Y (.int .i64 a) (.int .i64 1)).run P W = .ok (.int .i64 b) W:=by
 subst h
 unfold binK
 simp [go_sem,eqGuard]
 exact IntWalk.i64_in _ (by omega)
theorem lss_run {c d : Int} {v : Bool} (h : decide (c < d) = v) : (binK .lss T X Y (.int .i64 c) (.int .i64 d)).run P W = .ok (.bool v) W:=by
 subst h
 unfold binK
 simp [go_sem,eqGuard]
end
def lst (l : List Nat) : Nat → Nat:=fun k => l.getD k 0
def cN (n : Nat) : List SV:=[.v (.int .u64 (wd n 0)),.v (.int .u64 (wd n 1)),.v (.int .u64 (wd n 2)),.v (.int .u64 (wd n 3))]
def cZ : List SV:=[.v (.int .u64 0),.v (.int .u64 0),.v (.int .u64 0),.v (.int .u64 0)]
theorem add64 (x y c : Int) (hx : 0 ≤ x) (hy : 0 ≤ y) (hc0 : 0 ≤ c) (hc : c ≤ 1) (w : World) :
  (callFunc 204 #[vI vU x,vI vU y,vI vU c]).run Tryz.prog w = .ok (.value (.tuple #[vI vU ((x + y + c) % 18446744073709551616),vI vU ((x + y + c) / 18446744073709551616)])) w:=by
 rw [run_callFunc_extern Tryz.func204 (by kernel_rfl) (by kernel_rfl) (by kernel_rfl) (e:=add64Entry) (by kernel_rfl),run_add64 x y c hx hy hc0 hc]
 rfl
def cyI (X Y i : Nat) : Int:=(cy w64 X Y i : Nat)
theorem add64_at (X Y k : Nat) (w : World) :
  (callFunc 204 #[vI vU (wd X k),vI vU (wd Y k),vI vU (cyI X Y k)]).run Tryz.prog w = .ok (.value (.tuple #[vI vU (wd (X + Y) k),vI vU (cyI X Y (k + 1))])) w:=by
 have hc:=cy_le zak X Y k
 rw [add64 _ _ _ (wd_lo _ _) (wd_lo _ _) (by unfold cyI; omega) (by unfold cyI; omega)]
 unfold wd cyI
 rw [cy_succ zak,dg_add zak]
 unfold w64
 simp
theorem cyI_top {X Y : Nat} (hX : X < top) (hY : Y < top) : (cyI X Y 4 != 0) = decide (top ≤ X + Y):=by
 unfold cyI
 rw [cy_top (n:=4) hX hY]
 show _ = decide (w64 ^ 4 ≤ X + Y)
 by_cases h : w64 ^ 4 ≤ X + Y <;> simp [h]
theorem add_any (X Y : Nat) (hX : X < top) (hY : Y < top) (w : World) :
  Calls Tryz.prog 183 #[.agg #[vI vU (wd X 0),vI vU (wd X 1),vI vU (wd X 2),vI vU (wd X 3)],.agg #[vI vU (wd Y 0),vI vU (wd Y 1),vI vU (wd Y 2),vI vU (wd Y 3)]] w fun e w' =>
   e = .returned (.tuple #[.agg #[vI vU (wd (X + Y) 0),vI vU (wd (X + Y) 1),vI vU (wd (X + Y) 2),vI vU (wd (X + Y) 3)],.bool (decide (top ≤ X + Y))]) ∧ Below w.heap.size w w':=by
 have h29:=fun (k : Nat) (W : World) => add64_at X Y k W
 go_enter Tryz.func183,Tryz.ntmps183
 go_wp2
 go_loopw [7,9] (fun c i wr => ∃ k : Nat,k ≤ 4 ∧ i = .int .i64 k ∧ c = .int .u64 (cyI X Y k) ∧ wr.rowIs w.heap.size 58 4 (fun j => .int .u64 (wd X j))
   ∧ wr.rowIs (w.heap.size + 1) 58 4 (fun j => .int .u64 (wd Y j)) ∧ wr.rowIs (w.heap.size + 1 + 1) 58 4 (fun _ => .int .u64 0)
   ∧ wr.rowIs (w.heap.size + 1 + 1 + 1) 58 4 (fun j => .int .u64 (if j < k then wd (X + Y) j else 0)) ∧ Below w.heap.size w wr)
  (fun _ i _ => 4 - (intOf i).toNat)
 case atStart => exact ⟨0,by omega,rfl,by simp [cyI,cy_zero],(((zaf (n:=4) (by simp) rfl (arr4 fun j => .int .u64 (wd X j))).alloc _).alloc _).alloc _,((zaf (n:=4) (by simp) rfl (arr4 fun j => .int .u64 (wd Y j))).alloc _).alloc _,(zaf (n:=4) (by simp) rfl (arr4 fun _ => .int .u64 0)).alloc _,zaf (n:=4) (by simp) rfl (arr4 fun _ => .int .u64 0),((((Below.refl _ _).alloc (by simp) _).alloc (by simp) _).alloc (by simp; omega) _).alloc (by simp; omega) _⟩
 case round =>
  obtain ⟨k,hk,rfl,rfl,hRX,hRY,hRZ,hRS,hbel⟩:=hrel
  by_cases hlt : k < 4
  ·
   have c1:=hRX.cell hlt
   have c2:=hRY.cell hlt
   have c3:=hRS.cell hlt
   have f3:=hRS.frozen k
   go_wp2
   go_region_with (fail)
   all_goals
    go_wp2
    go_roundw
    case rel => exact ⟨k + 1,by omega,by go_num,rfl,(zam hRX (by omega) _).drew,(zam hRY (by omega) _).drew,(zam hRZ (by omega) _).drew,((hRS.set k _).congr (row_step hlt)).drew,(zad hbel (by omega) _).drew⟩
    case measure => simp [intOf]; omega
  ·
   obtain rfl : k = 4:=by omega
   obtain ⟨c0,c1,c2,c3⟩:=zag hRS
   obtain ⟨d0,d1,d2,d3⟩:=zag hRZ
   obtain ⟨f0,f1,f2,f3⟩:=zay hRZ
   simp only [show (0 : Nat) < 4 from by omega,show (1 : Nat) < 4 from by omega,show (2 : Nat) < 4 from by omega,show (3 : Nat) < 4 from by omega,if_true] at c0 c1 c2 c3
   clear hRX hRY hRS
   have hz:=cyI_top hX hY
   go_wp2
   refine bodyPost_ret (zbv rfl _ _ (w.heap.size + 1 + 1) 58 #[vI vU (wd (X + Y) 0),vI vU (wd (X + Y) 1),vI vU (wd (X + Y) 2),vI vU (wd (X + Y) 3)] (0,0) 4 56 rfl (blk4 (put4 hRZ fun j => .int .u64 (wd (X + Y) j))) Tryz.underlying58 (by kernel_rfl)) rfl ⟨?_,zan hbel (by omega) _ _ _ _⟩
   rfl
theorem add_calls (X Y : Nat) (hX : X < top) (hY : Y < top) (w : World) :
  Calls Tryz.prog 183 #[.agg #[vI vU (wd X 0),vI vU (wd X 1),vI vU (wd X 2),vI vU (wd X 3)],.agg #[vI vU (wd Y 0),vI vU (wd Y 1),vI vU (wd Y 2),vI vU (wd Y 3)]] w fun e w' => e = .returned (.tuple #[.agg #[vI vU (wd ((X + Y) % top) 0),vI vU (wd ((X + Y) % top) 1),vI vU (wd ((X + Y) % top) 2),vI vU (wd ((X + Y) % top) 3)],.bool (decide (top ≤ X + Y))]) ∧ Below w.heap.size w w':=by
 rw [zer _ 0 (by omega),zer _ 1 (by omega),zer _ 2 (by omega),zer _ 3 (by omega)]
 exact add_any X Y hX hY w
def sub64Entry : Array Value → Sem Value:=fun args => do
 let (x,y,b) ← Extern.MathBitsCarry.three "Sub64" args
 pure (Extern.MathBitsCarry.pair ((x + Extern.MathBitsCarry.m64 - y - b) % Extern.MathBitsCarry.m64) (if x < y + b then 1 else 0))
theorem run_sub64 (x y b : Nat) (hb : b ≤ 1) (w : World) :
  (sub64Entry #[vI vU (x : Int),vI vU (y : Int),vI vU (b : Int)]).run Tryz.prog w =
   .ok (.tuple #[vI vU (((x + w64 - y - b) % w64 : Nat) : Int),vI vU ((if x < y + b then 1 else 0 : Nat) : Int)]) w:=by
 have : b = 0 ∨ b = 1:=by omega
 rcases this with rfl | rfl <;> rfl
theorem sub64 (x y b : Nat) (hb : b ≤ 1) (w : World) :
  (callFunc 184 #[vI vU (x : Int),vI vU (y : Int),vI vU (b : Int)]).run Tryz.prog w = .ok (.value (.tuple #[vI vU (((x + w64 - y - b) % w64 : Nat) : Int),vI vU ((if x < y + b then 1 else 0 : Nat) : Int)])) w:=by
 rw [run_callFunc_extern Tryz.func184 (by kernel_rfl) (by kernel_rfl) (by kernel_rfl) (e:=sub64Entry) (by kernel_rfl),run_sub64 x y b hb]
 rfl
def bwI (X Y i : Nat) : Int:=(bw w64 X Y i : Nat)
theorem sub64_at (X Y k : Nat) (hk : k < 4) (hY : Y ≤ top) (w : World) :
  (callFunc 184 #[vI vU (wd X k),vI vU (wd Y k),vI vU (bwI X Y k)]).run Tryz.prog w = .ok (.value (.tuple #[vI vU (wd (X + top - Y) k),vI vU (bwI X Y (k + 1))])) w:=by
 unfold wd bwI
 rw [sub64 _ _ _ (bw_le w64 X Y k)]
 unfold top at hY ⊢
 rw [bw_succ zak,dg_sub zak X Y 4 k hk hY]
theorem bwI_top {X Y : Nat} (hX : X < top) (hY : Y < top) : (bwI X Y 4 != 0) = decide (X < Y):=by
 unfold bwI
 rw [bw_top (n:=4) hX hY]
 by_cases h : X < Y <;> simp [h]
theorem sub_any (X Y : Nat) (hX : X < top) (hY : Y < top) (w : World) :
  Calls Tryz.prog 149 #[.agg #[vI vU (wd X 0),vI vU (wd X 1),vI vU (wd X 2),vI vU (wd X 3)],.agg #[vI vU (wd Y 0),vI vU (wd Y 1),vI vU (wd Y 2),vI vU (wd Y 3)]] w fun e w' =>
   e = .returned (.tuple #[.agg #[vI vU (wd (X + top - Y) 0),vI vU (wd (X + top - Y) 1),vI vU (wd (X + top - Y) 2),vI vU (wd (X + top - Y) 3)],.bool (decide (X < Y))]) ∧ Below w.heap.size w w':=by
 go_enter Tryz.func149,Tryz.ntmps149
 go_wp2
 go_loopw [7,9] (fun c i wr => ∃ k : Nat,k ≤ 4 ∧ i = .int .i64 k ∧ c = .int .u64 (bwI X Y k) ∧ wr.rowIs w.heap.size 58 4 (fun j => .int .u64 (wd X j))
   ∧ wr.rowIs (w.heap.size + 1) 58 4 (fun j => .int .u64 (wd Y j)) ∧ wr.rowIs (w.heap.size + 1 + 1) 58 4 (fun _ => .int .u64 0)
   ∧ wr.rowIs (w.heap.size + 1 + 1 + 1) 58 4 (fun j => .int .u64 (if j < k then wd (X + top - Y) j else 0)) ∧ Below w.heap.size w wr)
  (fun _ i _ => 4 - (intOf i).toNat)
 case atStart => exact ⟨0,by omega,rfl,by simp [bwI,bw_zero],(((zaf (n:=4) (by simp) rfl (arr4 fun j => .int .u64 (wd X j))).alloc _).alloc _).alloc _,((zaf (n:=4) (by simp) rfl (arr4 fun j => .int .u64 (wd Y j))).alloc _).alloc _,(zaf (n:=4) (by simp) rfl (arr4 fun _ => .int .u64 0)).alloc _,zaf (n:=4) (by simp) rfl (arr4 fun _ => .int .u64 0),((((Below.refl _ _).alloc (by simp) _).alloc (by simp) _).alloc (by simp; omega) _).alloc (by simp; omega) _⟩
 case round =>
  obtain ⟨k,hk,rfl,rfl,hRX,hRY,hRZ,hRS,hbel⟩:=hrel
  by_cases hlt : k < 4
  ·
   have c1:=hRX.cell hlt
   have c2:=hRY.cell hlt
   have c3:=hRS.cell hlt
   have f3:=hRS.frozen k
   have h30:=fun (W : World) => sub64_at X Y k hlt (Nat.le_of_lt hY) W
   go_wp2
   go_region_with (fail)
   all_goals
    go_wp2
    go_roundw
    case rel => exact ⟨k + 1,by omega,by go_num,rfl,(zam hRX (by omega) _).drew,(zam hRY (by omega) _).drew,(zam hRZ (by omega) _).drew,((hRS.set k _).congr (row_step hlt)).drew,(zad hbel (by omega) _).drew⟩
    case measure => simp [intOf]; omega
  ·
   obtain rfl : k = 4:=by omega
   obtain ⟨c0,c1,c2,c3⟩:=zag hRS
   obtain ⟨d0,d1,d2,d3⟩:=zag hRZ
   obtain ⟨f0,f1,f2,f3⟩:=zay hRZ
   simp only [show (0 : Nat) < 4 from by omega,show (1 : Nat) < 4 from by omega,show (2 : Nat) < 4 from by omega,show (3 : Nat) < 4 from by omega,if_true] at c0 c1 c2 c3
   clear hRX hRY hRS
   have hz:=bwI_top hX hY
   go_wp2
   refine bodyPost_ret (zbv rfl _ _ (w.heap.size + 1 + 1) 58 #[vI vU (wd (X + top - Y) 0),vI vU (wd (X + top - Y) 1),vI vU (wd (X + top - Y) 2),vI vU (wd (X + top - Y) 3)] (0,0) 4 56 rfl (blk4 (put4 hRZ fun j => .int .u64 (wd (X + top - Y) j))) Tryz.underlying58 (by kernel_rfl)) rfl ⟨?_,zan hbel (by omega) _ _ _ _⟩
   rfl
theorem sub_calls (X Y : Nat) (hX : X < top) (hY : Y < top) (w : World) :
  Calls Tryz.prog 149 #[.agg #[vI vU (wd X 0),vI vU (wd X 1),vI vU (wd X 2),vI vU (wd X 3)],.agg #[vI vU (wd Y 0),vI vU (wd Y 1),vI vU (wd Y 2),vI vU (wd Y 3)]] w fun e w' => e = .returned (.tuple #[.agg #[vI vU (wd ((X + top - Y) % top) 0),vI vU (wd ((X + top - Y) % top) 1),vI vU (wd ((X + top - Y) % top) 2),vI vU (wd ((X + top - Y) % top) 3)],.bool (decide (X < Y))]) ∧ Below w.heap.size w w':=by
 rw [zer _ 0 (by omega),zer _ 1 (by omega),zer _ 2 (by omega),zer _ 3 (by omega)]
 exact sub_any X Y hX hY w
def cmpN (X Y : Nat) : Int:=if X < Y then -1 else if Y < X then 1 else 0
theorem cmp_step (B X Y k : Nat) (hB : 0 < B) : cmpN (X % B ^ (k + 1)) (Y % B ^ (k + 1)) = if dg B X k < dg B Y k then -1 else if dg B Y k < dg B X k then 1 else cmpN (X % B ^ k) (Y % B ^ k):=by
 have hp : 0 < B ^ k:=Nat.pow_pos hB
 have h1:=Nat.mod_lt X hp
 have h2:=Nat.mod_lt Y hp
 unfold cmpN
 rw [zbb,zbb]
 generalize dg B X k = x
 generalize dg B Y k = y
 generalize X % B ^ k = r at *
 generalize Y % B ^ k = s at *
 generalize B ^ k = P at *
 by_cases hxy : x < y
 ·
  have : P * x + P ≤ P * y:=by rw [← Nat.mul_succ]; exact Nat.mul_le_mul_left _ hxy
  rw [if_pos (by omega),if_pos hxy]
 ·
  by_cases hyx : y < x
  ·
   have : P * y + P ≤ P * x:=by rw [← Nat.mul_succ]; exact Nat.mul_le_mul_left _ hyx
   rw [if_neg (by omega),if_pos (by omega),if_neg hxy,if_pos hyx]
  ·
   have hxy' : x = y:=by omega
   subst hxy'
   simp
theorem cmp_high (B X Y n m : Nat) (hB : 0 < B) (hX : X < B ^ n) (hY : Y < B ^ n) (hm : m < n) (h : ∀ j,m < j → j < n → dg B X j = dg B Y j) (hne : dg B X m ≠ dg B Y m) :
  cmpN X Y = if dg B X m < dg B Y m then -1 else 1:=by
 have e : X / B ^ (m + 1) = Y / B ^ (m + 1):=by
  have hn : B ^ n = B ^ (m + 1) * B ^ (n - (m + 1)):=by rw [← Nat.pow_add]; congr 1; omega
  refine eq_of_dg_lt hB (n:=n - (m + 1)) ?_ ?_ fun i hi => ?_
  ·
   rw [Nat.div_lt_iff_lt_mul (Nat.pow_pos hB),Nat.mul_comm,← hn]; exact hX
  ·
   rw [Nat.div_lt_iff_lt_mul (Nat.pow_pos hB),Nat.mul_comm,← hn]; exact hY
  ·
   have:=h (m + 1 + i) (by omega) (by omega)
   unfold dg at *
   rwa [Nat.div_div_eq_div_mul,Nat.div_div_eq_div_mul,← Nat.pow_add]
 have c : cmpN X Y = cmpN (X % B ^ (m + 1)) (Y % B ^ (m + 1)):=by
  have hx:=Nat.mod_add_div X (B ^ (m + 1))
  have hy:=Nat.mod_add_div Y (B ^ (m + 1))
  rw [e] at hx
  unfold cmpN
  generalize B ^ (m + 1) * (Y / B ^ (m + 1)) = q at *
  generalize X % B ^ (m + 1) = r at *
  generalize Y % B ^ (m + 1) = s at *
  subst hx; subst hy
  simp
 rw [c,cmp_step B X Y m hB]
 by_cases hlt : dg B X m < dg B Y m
 ·
  rw [if_pos hlt,if_pos hlt]
 ·
  rw [if_neg hlt,if_neg hlt,if_pos (by omega)]
theorem compare_lt (x y : Int) (h : x < y) (w : World) : Calls Tryz.prog 180 #[vI vU x,vI vU y] w fun e w' => e = .returned (.int .i64 (-1)) ∧ w' = w:=by
 go_enter Tryz.func180,Tryz.ntmps180
 go_wp2
 go_ret
 exact ⟨rfl,rfl⟩
theorem compare_gt (x y : Int) (h : y < x) (w : World) : Calls Tryz.prog 180 #[vI vU x,vI vU y] w fun e w' => e = .returned (.int .i64 1) ∧ w' = w:=by
 go_enter Tryz.func180,Tryz.ntmps180
 go_wp2
 go_ret
 exact ⟨rfl,rfl⟩
theorem wd_cmp {X Y k : Nat} (h : dg w64 X k < dg w64 Y k) : wd X k < wd Y k:=by unfold wd; omega
theorem cmp_calls (X Y : Nat) (hX : X < top) (hY : Y < top) (w : World) :
  Calls Tryz.prog 143 #[.agg #[vI vU (wd X 0),vI vU (wd X 1),vI vU (wd X 2),vI vU (wd X 3)],.agg #[vI vU (wd Y 0),vI vU (wd Y 1),vI vU (wd Y 2),vI vU (wd Y 3)]] w fun e w' => e = .returned (.int .i64 (cmpN X Y)) ∧ Below w.heap.size w w':=by
 go_enter Tryz.func143,Tryz.ntmps143
 go_wp2
 go_loopw [5] (fun i wr => ∃ k : Nat,k ≤ 4 ∧ i = .int .i64 ((k : Int) - 1) ∧ (∀ j,k ≤ j → j < 4 → dg w64 X j = dg w64 Y j) ∧ wr.rowIs w.heap.size 58 4 (fun j => .int .u64 (wd X j))
   ∧ wr.rowIs (w.heap.size + 1) 58 4 (fun j => .int .u64 (wd Y j)) ∧ Below w.heap.size w wr)
  (fun i _ => (intOf i + 1).toNat)
 case atStart => exact ⟨4,by omega,rfl,by intro j h1 h2; omega,(zaf (n:=4) (by simp) rfl (arr4 fun j => .int .u64 (wd X j))).alloc _,zaf (n:=4) (by simp) rfl (arr4 fun j => .int .u64 (wd Y j)),((Below.refl _ _).alloc (by simp) _).alloc (by simp) _⟩
 case round =>
  obtain ⟨k,hk,hi,hall,hRX,hRY,hbel⟩:=hrel
  have HALL:=veil hall
  clear hall
  cases k with
  | zero =>
   subst hi
   have hXY : X = Y:=eq_of_dg_lt zak hX hY fun j hj => HALL.out j (Nat.zero_le _) hj
   go_wp2
   go_ret
   have hc : cmpN X Y = 0:=by unfold cmpN; rw [if_neg (by omega),if_neg (by omega)]
   rw [hc]
   exact ⟨rfl,hbel⟩
  | succ m =>
   obtain rfl : _ = Value.int .i64 (m : Int):=hi.trans (by congr 1; omega)
   have hm : m < 4:=by omega
   go_wp2
   have c1:=hRX.cell hm
   have c2:=hRY.cell hm
   rcases Nat.lt_trichotomy (dg w64 X m) (dg w64 Y m) with h | h | h
   ·
    have hlt:=wd_cmp h
    have hne : (wd X m != wd Y m) = true:=by rw [bne_iff_ne]; omega
    have hc : cmpN X Y = -1:=by rw [cmp_high w64 X Y 4 m zak hX hY hm (fun j h1 h2 => HALL.out j (by omega) h2) (by omega),if_pos h]
    have HC:=veil hc
    clear hc
    go_quiet (fail)
    go_wp2
    go_quiet ((go_at_call 180; exact quiet_more (compare_lt _ _ hlt _)))
    go_wp2
    go_ret
    rw [HC.out]
    exact ⟨rfl,zbd (zbd hbel _) _⟩
   ·
    have hne : (wd X m != wd Y m) = false:=by unfold wd; rw [h]; simp
    go_quiet (fail)
    go_wp2
    go_roundw
    case rel => exact ⟨m,by omega,by go_num,fun j h1 h2 => by
     by_cases e : j = m
     ·
      rw [e]; exact h
     ·
      exact HALL.out j (by omega) h2,zcd hRX _,zcd hRY _,zbd hbel _⟩
    case measure => simp [intOf]
   ·
    have hlt:=wd_cmp h
    have hne : (wd X m != wd Y m) = true:=by rw [bne_iff_ne]; omega
    have hc : cmpN X Y = 1:=by rw [cmp_high w64 X Y 4 m zak hX hY hm (fun j h1 h2 => HALL.out j (by omega) h2) (by omega),if_neg (by omega)]
    have HC:=veil hc
    clear hc
    go_quiet (fail)
    go_wp2
    go_quiet ((go_at_call 180; exact quiet_more (compare_gt _ _ hlt _)))
    go_wp2
    go_ret
    rw [HC.out]
    exact ⟨rfl,zbd (zbd hbel _) _⟩
end Go.Proofs.YtbfkecfcolcclaaGreatDoor
namespace Go.Proofs.YtbfkecfcolcclaaGreatDoor.Pt
section law
variable {n : Nat} [NeZero n]
def Slope (a x1 y1 x2 y2 l : Fin n) : Prop:=l * (x2 - x1) = y2 - y1 ∧ l * (y1 + y2) = x1 * x1 + x1 * x2 + x2 * x2 + a
def OnC (a b x y : Fin n) : Prop:=y * y = x * x * x + a * x + b
def NoZ (n : Nat) [NeZero n] : Prop:=∀ x y : Fin n,x * y = 0 → x = 0 ∨ y = 0
theorem mv1 {x1 y1 x2 y2 l : Fin n} (h : l * (x2 - x1) = y2 - y1) : y1 = y2 - l * (x2 - x1):=by grobner
theorem mv2 {x1 y1 x2 y2 l : Fin n} (h : l * (x2 - x1) = y2 - y1) : y2 = y1 + l * (x2 - x1):=by grobner
theorem zeg {a x1 y1 x2 y2 l : Fin n} (h : Slope a x1 y1 x2 y2 l) : Slope a x2 y2 x1 y1 l:=by
 obtain ⟨h1,h2⟩:=h
 refine ⟨?_,?_⟩ <;> grobner
theorem slope_uniq {a x1 y1 x2 y2 l m : Fin n} (hz : NoZ n) (hn : ¬ (x1 = x2 ∧ y1 + y2 = 0)) (h : Slope a x1 y1 x2 y2 l) (h' : Slope a x1 y1 x2 y2 m) : l = m:=by
 obtain ⟨h1,h2⟩:=h
 obtain ⟨g1,g2⟩:=h'
 have e1 : (l - m) * (x2 - x1) = 0:=by grobner
 have e2 : (l - m) * (y1 + y2) = 0:=by grobner
 rcases hz _ _ e1 with h | h
 ·
  grobner
 ·
  rcases hz _ _ e2 with h' | h'
  ·
   grobner
  ·
   exact absurd ⟨by grobner,h'⟩ hn
theorem on_third {a b x1 y1 x2 y2 l : Fin n} (h : OnC a b x1 y1) (hs : Slope a x1 y1 x2 y2 l) : OnC a b (l * l - x1 - x2) (l * (x1 - (l * l - x1 - x2)) - y1):=by
 obtain ⟨h1,h2⟩:=hs
 have ha : a = 2 * l * y1 + l * l * (x2 - x1) - x1 * x1 - x1 * x2 - x2 * x2:=by grobner
 have hb : b = y1 * y1 - x1 * x1 * x1 - a * x1:=by unfold OnC at h; grobner
 unfold OnC
 subst hb
 subst ha
 grobner
theorem tan0 {x3 xd y3 yd s : Fin n} (h : s * (x3 - xd) = y3 - yd) (hx : xd = x3) : yd = y3:=by subst hx; grobner
theorem tan1 {x1 x2 x3 y2 l m : Fin n} (hR : 2 * (l - m) * y2 = (x1 - x2) * (x1 + x2 + x3 - l * l) - (x3 - x2) * (x1 + x2 + x3 - m * m)) (h : l * l - x1 - x2 = x3) : (l - m) * (2 * y2 + (x3 - x2) * (l + m)) = 0:=by subst h; grobner
theorem tan2 {x2 x3 y2 y3 l m : Fin n} (h : 2 * y2 + (x3 - x2) * (l + m) = 0) (hy : y3 = y2 + m * (x3 - x2)) : y3 + y3 = (x3 - x2) * (m - l):=by subst hy; grobner
theorem tan3 {a x1 x2 x3 y2 y3 l m s : Fin n} (h : 2 * y2 + (x3 - x2) * (l + m) = 0) (hy : y3 = y2 + m * (x3 - x2)) (h4 : y3 + y3 = (x3 - x2) * (m - l)) (hx : l * l - x1 - x2 = x3)
  (m2 : m * (y2 + y3) = x2 * x2 + x2 * x3 + x3 * x3 + a) (s2 : s * (y3 + y3) = x3 * x3 + x3 * x3 + x3 * x3 + a) : (x3 - x2) * ((l - m) * (s + l) - (x1 - x3)) = 0:=by
 have e1 : y2 + y3 = - ((x3 - x2) * l):=by clear m2 s2 hx; subst hy; grobner
 rw [e1] at m2
 rw [h4] at s2
 clear h h4 hy e1
 have e2 : x1 = l * l - x2 - x3:=by grobner
 subst e2
 grobner
theorem sec1 {x1 x2 x3 y2 y3 l m s xd yd : Fin n} (h : s * (x3 - xd) = y3 - yd) (hy : y3 = y2 + m * (x3 - x2)) (hd : yd = l * (x1 - xd) - (y2 - l * (x2 - x1))) : (s + l) * (x3 - xd) = 2 * y2 + (l + m) * (x3 - x2):=by
 subst hy
 subst hd
 grobner
theorem sec2 {x1 x2 x3 y2 l m s : Fin n} (hR : 2 * (l - m) * y2 = (x1 - x2) * (x1 + x2 + x3 - l * l) - (x3 - x2) * (x1 + x2 + x3 - m * m)) (h : (s + l) * (x3 - (l * l - x1 - x2)) = 2 * y2 + (l + m) * (x3 - x2)) :
  (x3 - (l * l - x1 - x2)) * ((l - m) * (s + l) - (x1 - x3)) = 0:=by grobner
theorem keyR {a x1 y1 x2 y2 x3 y3 l m : Fin n} (hl : Slope a x1 y1 x2 y2 l) (hm : Slope a x2 y2 x3 y3 m) : 2 * (l - m) * y2 = (x1 - x2) * (x1 + x2 + x3 - l * l) - (x3 - x2) * (x1 + x2 + x3 - m * m):=by
 obtain ⟨l1,l2⟩:=hl
 obtain ⟨m1,m2⟩:=hm
 have hy1:=mv1 l1
 have hy3:=mv2 m1
 subst hy1
 subst hy3
 clear l1 m1
 grobner
theorem eq_of_sub {x y : Fin n} (h : x - y = 0) : x = y:=by grobner
theorem key {a x1 y1 x2 y2 x3 y3 l m s : Fin n} (hz : NoZ n) (hlm : l ≠ m) (hl : Slope a x1 y1 x2 y2 l) (hm : Slope a x2 y2 x3 y3 m)
  (hs : Slope a (l * l - x1 - x2) (l * (x1 - (l * l - x1 - x2)) - y1) x3 y3 s) (hn : ¬ (l * l - x1 - x2 = x3 ∧ l * (x1 - (l * l - x1 - x2)) - y1 + y3 = 0)) : (l - m) * (s + l) = x1 - x3:=by
 have hR:=keyR hl hm
 obtain ⟨l1,l2⟩:=hl
 obtain ⟨m1,m2⟩:=hm
 obtain ⟨s1,s2⟩:=hs
 have hy1:=mv1 l1
 have hy3:=mv2 m1
 by_cases hP : l * l - x1 - x2 = x3
 ·
  have hyy:=tan0 s1 hP
  have h3 : 2 * y2 + (x3 - x2) * (l + m) = 0:=by
   rcases hz _ _ (tan1 hR hP) with h | h
   ·
    exact absurd (eq_of_sub h) hlm
   ·
    exact h
  have h4:=tan2 h3 hy3
  rw [hyy,hP] at s2
  rcases hz _ _ (tan3 h3 hy3 h4 hP m2 s2) with h | h
  ·
   refine absurd ⟨hP,?_⟩ hn
   rw [hyy,h4,h]
   grobner
  ·
   exact eq_of_sub h
 ·
  rw [hy1] at s1
  rcases hz _ _ (sec2 hR (sec1 s1 hy3 rfl)) with h | h
  ·
   exact absurd (eq_of_sub h).symm hP
  ·
   exact eq_of_sub h
structure Cur (n : Nat) [NeZero n] where
 a : Fin n
 b : Fin n
 inv : Fin n → Fin n
structure Good (E : Cur n) : Prop where
 hz : NoZ n
 nt : ∀ x : Fin n,x * x * x + E.a * x + E.b ≠ 0
 two : (2 : Fin n) ≠ 0
 hinv : ∀ x : Fin n,x ≠ 0 → x * E.inv x = 1
def Cur.lam (E : Cur n) (x1 y1 x2 y2 : Fin n) : Fin n:=if x1 = x2 ∧ y1 = y2 then (3 * (x1 * x1) + E.a) * E.inv (y1 + y1) else (y2 - y1) * E.inv (x2 - x1)
abbrev P (n : Nat):=Option (Fin n × Fin n)
def third (x1 y1 x2 l : Fin n) : P n:=some (l * l - x1 - x2,l * (x1 - (l * l - x1 - x2)) - y1)
def Cur.add (E : Cur n) : P n → P n → P n
 | none,q => q
 | p,none => p
 | some (x1,y1),some (x2,y2) => if x1 = x2 ∧ y1 + y2 = 0 then none else third x1 y1 x2 (E.lam x1 y1 x2 y2)
def neg : P n → P n
 | none => none
 | some (x,y) => some (x,- y)
def Cur.on (E : Cur n) : P n → Prop
 | none => True
 | some (x,y) => OnC E.a E.b x y
variable {E : Cur n}
theorem zbk (G : Good E) {x1 y1 x2 y2 : Fin n} (h1 : OnC E.a E.b x1 y1) (h2 : OnC E.a E.b x2 y2) (hn : ¬ (x1 = x2 ∧ y1 + y2 = 0)) : Slope E.a x1 y1 x2 y2 (E.lam x1 y1 x2 y2):=by
 unfold OnC at h1 h2
 unfold Cur.lam
 by_cases hs : x1 = x2 ∧ y1 = y2
 ·
  rw [if_pos hs]
  obtain ⟨rfl,rfl⟩:=hs
  have hi:=G.hinv (y1 + y1) (fun h => hn ⟨rfl,h⟩)
  generalize E.inv (y1 + y1) = i at hi ⊢
  refine ⟨?_,?_⟩
  ·
   clear hi h1 h2; grobner
  ·
   clear h1 h2; grobner
 ·
  rw [if_neg hs]
  by_cases hx : x1 = x2
  ·
   exfalso
   have e : (y1 - y2) * (y1 + y2) = 0:=by subst hx; grobner
   rcases G.hz _ _ e with h | h
   ·
    exact hs ⟨hx,eq_of_sub h⟩
   ·
    exact hn ⟨hx,h⟩
  ·
   have hx' : x2 - x1 ≠ 0:=fun h => hx (eq_of_sub h).symm
   have hi:=G.hinv (x2 - x1) hx'
   generalize E.inv (x2 - x1) = i at hi ⊢
   have e1 : (y2 - y1) * i * (x2 - x1) = y2 - y1:=by clear h1 h2; grobner
   refine ⟨e1,?_⟩
   generalize (y2 - y1) * i = l at e1 ⊢
   clear hi
   have e : (x2 - x1) * (l * (y1 + y2) - (x1 * x1 + x1 * x2 + x2 * x2 + E.a)) = 0:=by grobner
   rcases G.hz _ _ e with h | h
   ·
    exact absurd h hx'
   ·
    exact eq_of_sub h
theorem zdp (G : Good E) {x1 y1 x2 y2 l : Fin n} (h1 : OnC E.a E.b x1 y1) (h2 : OnC E.a E.b x2 y2) (hn : ¬ (x1 = x2 ∧ y1 + y2 = 0)) (hl : Slope E.a x1 y1 x2 y2 l) : E.add (some (x1,y1)) (some (x2,y2)) = third x1 y1 x2 l:=by
 show (if x1 = x2 ∧ y1 + y2 = 0 then none else third x1 y1 x2 (E.lam x1 y1 x2 y2)) = _
 rw [if_neg hn,slope_uniq G.hz hn (zbk G h1 h2 hn) hl]
theorem zcj (E : Cur n) {x1 y1 x2 y2 : Fin n} (hn : x1 = x2 ∧ y1 + y2 = 0) : E.add (some (x1,y1)) (some (x2,y2)) = none:=if_pos hn
theorem none_add (E : Cur n) (p : P n) : E.add none p = p:=by cases p <;> rfl
theorem add_none (E : Cur n) (p : P n) : E.add p none = p:=by cases p <;> rfl
theorem zgt {x1 y1 x2 y2 l : Fin n} (h1 : OnC E.a E.b x1 y1) (hl : Slope E.a x1 y1 x2 y2 l) : E.on (third x1 y1 x2 l):=on_third h1 hl
theorem on_add (G : Good E) {p q : P n} (hp : E.on p) (hq : E.on q) : E.on (E.add p q):=by
 rcases p with _ | ⟨x1,y1⟩
 ·
  rw [none_add]; exact hq
 rcases q with _ | ⟨x2,y2⟩
 ·
  rw [add_none]; exact hp
 by_cases hn : x1 = x2 ∧ y1 + y2 = 0
 ·
  rw [zcj E hn]; trivial
 ·
  have hl:=zbk G hp hq hn
  rw [zdp G hp hq hn hl]
  exact zgt hp hl
theorem zgb {x1 y1 x2 y2 l a : Fin n} (hl : Slope a x1 y1 x2 y2 l) : third x1 y1 x2 l = third x2 y2 x1 l:=by
 obtain ⟨h1,_⟩:=hl
 unfold third
 have e1 : l * l - x1 - x2 = l * l - x2 - x1:=by clear h1; grobner
 rw [← e1]
 have e2 : l * (x1 - (l * l - x1 - x2)) - y1 = l * (x2 - (l * l - x1 - x2)) - y2:=by
  have:=mv2 h1
  clear h1 e1
  subst this
  grobner
 rw [e2]
theorem opp_symm {x1 y1 x2 y2 : Fin n} (h : x1 = x2 ∧ y1 + y2 = 0) : x2 = x1 ∧ y2 + y1 = 0:=⟨h.1.symm,by have:=h.2; clear h; grobner⟩
theorem zbe (G : Good E) {p q : P n} (hp : E.on p) (hq : E.on q) : E.add p q = E.add q p:=by
 rcases p with _ | ⟨x1,y1⟩
 ·
  rw [none_add,add_none]
 rcases q with _ | ⟨x2,y2⟩
 ·
  rw [none_add,add_none]
 by_cases hn : x1 = x2 ∧ y1 + y2 = 0
 ·
  rw [zcj E hn,zcj E (opp_symm hn)]
 ·
  have hl:=zbk G hp hq hn
  rw [zdp G hp hq hn hl,zdp G hq hp (fun h => hn (opp_symm h)) (zeg hl),zgb hl]
theorem zdi {p : P n} (hp : E.on p) : E.on (neg p):=by
 rcases p with _ | ⟨x1,y1⟩
 ·
  trivial
 ·
  change OnC _ _ _ _ at hp
  change OnC _ _ _ _
  unfold OnC at *
  rw [← hp]
  clear hp
  grobner
theorem zdj (p : P n) : neg (neg p) = p:=by
 rcases p with _ | ⟨x1,y1⟩
 ·
  rfl
 ·
  show some (x1,- - y1) = some (x1,y1)
  have : - - y1 = y1:=by grobner
  rw [this]
theorem zfv (E : Cur n) (p : P n) : E.add p (neg p) = none:=by
 rcases p with _ | ⟨x1,y1⟩
 ·
  rfl
 ·
  exact zcj E ⟨rfl,by grobner⟩
theorem dbl_zero (G : Good E) {y : Fin n} (h : y + y = 0) : y = 0:=by
 have e : 2 * y = 0:=by grobner
 rcases G.hz _ _ e with h | h
 ·
  exact absurd h G.two
 ·
  exact h
theorem y_ne (G : Good E) {x y : Fin n} (h : OnC E.a E.b x y) : y ≠ 0:=by
 intro e
 subst e
 refine G.nt x ?_
 unfold OnC at h
 rw [← h]
 clear h
 grobner
theorem neg_add' (G : Good E) {p q : P n} (hp : E.on p) (hq : E.on q) : neg (E.add p q) = E.add (neg p) (neg q):=by
 rcases p with _ | ⟨x1,y1⟩
 ·
  rw [none_add]; exact (none_add E _).symm
 rcases q with _ | ⟨x2,y2⟩
 ·
  rw [add_none]; exact (add_none E _).symm
 by_cases hn : x1 = x2 ∧ y1 + y2 = 0
 ·
  rw [zcj E hn]
  exact (zcj E ⟨hn.1,by have:=hn.2; clear hn; grobner⟩).symm
 ·
  have hl:=zbk G hp hq hn
  rw [zdp G hp hq hn hl]
  have hn' : ¬ (x1 = x2 ∧ - y1 + - y2 = 0):=fun h => hn ⟨h.1,by have:=h.2; clear h hl hn hp hq; grobner⟩
  generalize E.lam x1 y1 x2 y2 = l at hl ⊢
  have hl' : Slope E.a x1 (- y1) x2 (- y2) (- l):=by
   obtain ⟨g1,g2⟩:=hl
   refine ⟨?_,?_⟩
   ·
    clear g2 hn hn' hp hq; grobner
   ·
    rw [← g2]; clear g1 g2 hn hn' hp hq; grobner
  have hN : E.add (neg (some (x1,y1))) (neg (some (x2,y2))) = third x1 (- y1) x2 (- l):=zdp G (zdi hp) (zdi hq) hn' hl'
  rw [hN]
  clear hl' hl hn hn' hN hp hq
  show some (_,_) = some (_,_)
  have e1 : - l * - l - x1 - x2 = l * l - x1 - x2:=by grobner
  rw [e1]
  have e2 : - (l * (x1 - (l * l - x1 - x2)) - y1) = - l * (x1 - (l * l - x1 - x2)) - - y1:=by grobner
  rw [e2]
theorem rot (G : Good E) {p q : P n} (hp : E.on p) (hq : E.on q) : E.add q (neg (E.add p q)) = neg p:=by
 rcases p with _ | ⟨x1,y1⟩
 ·
  rw [none_add]; exact zfv E q
 rcases q with _ | ⟨x2,y2⟩
 ·
  rw [none_add,add_none]
 by_cases hn : x1 = x2 ∧ y1 + y2 = 0
 ·
  rw [zcj E hn]
  show E.add (some (x2,y2)) none = some (x1,- y1)
  rw [add_none]
  obtain ⟨rfl,h⟩:=hn
  have : y2 = - y1:=by clear hp hq; grobner
  rw [this]
 ·
  have hl:=zbk G hp hq hn
  rw [zdp G hp hq hn hl]
  generalize E.lam x1 y1 x2 y2 = l at hl
  have h3 : E.on (neg (third x1 y1 x2 l)):=zdi (zgt hp hl)
  change E.add _ (some (l * l - x1 - x2,- (l * (x1 - (l * l - x1 - x2)) - y1))) = _
  change E.on (some (l * l - x1 - x2,- (l * (x1 - (l * l - x1 - x2)) - y1))) at h3
  obtain ⟨g1,g2⟩:=hl
  have hy:=mv1 g1
  have e1 : - (l * (x1 - (l * l - x1 - x2)) - y1) = y2 + l * (l * l - x1 - x2 - x2):=by clear g1 g2 h3 hn hp hq; subst hy; grobner
  rw [e1] at h3 ⊢
  have hs : Slope E.a x2 y2 (l * l - x1 - x2) (y2 + l * (l * l - x1 - x2 - x2)) l:=by
   refine ⟨?_,?_⟩
   ·
    clear g1 g2 h3 hn hp hq hy e1; grobner
   ·
    have : E.a = l * (y1 + y2) - (x1 * x1 + x1 * x2 + x2 * x2):=by rw [g2]; clear g1 g2 h3 hn hp hq hy e1; grobner
    rw [this,hy]
    clear this g1 g2 h3 hn hp hq hy e1
    grobner
  have hn2 : ¬ (x2 = l * l - x1 - x2 ∧ y2 + (y2 + l * (l * l - x1 - x2 - x2)) = 0):=by
   rintro ⟨h,h'⟩
   rw [← h] at h'
   refine y_ne G hq (dbl_zero G ?_)
   rw [← h']
   clear h h' hs g1 g2 h3 hn hp hq hy e1
   grobner
  rw [zdp G hq h3 hn2 hs]
  show some (_,_) = some (_,_)
  have e2 : l * l - x2 - (l * l - x1 - x2) = x1:=by clear hn2 hs g1 g2 h3 hn hp hq hy e1; grobner
  have e3 : l * (x2 - x1) - y2 = - y1:=by rw [hy]; clear hn2 hs g1 g2 h3 hn hp hq hy e1 e2; grobner
  rw [e2,e3]
theorem back (G : Good E) {p q : P n} (hp : E.on p) (hq : E.on q) : E.add (neg q) (E.add p q) = p:=by
 have h:=rot G hp hq
 have h2:=congrArg neg h
 rw [zdj,neg_add' G hq (zdi (on_add G hp hq)),zdj] at h2
 exact h2
theorem fore (G : Good E) {p q : P n} (hp : E.on p) (hq : E.on q) : E.add p (E.add (neg p) q) = q:=by
 have h:=back G hq (zdi hp)
 rw [zdj,zbe G hq (zdi hp)] at h
 exact h
theorem opp_eq {x1 y1 x2 y2 : Fin n} (h : x1 = x2 ∧ y1 + y2 = 0) : (some (x2,y2) : P n) = neg (some (x1,y1)):=by
 obtain ⟨rfl,h⟩:=h
 have : y2 = - y1:=by grobner
 rw [this]
 rfl
theorem two_ways (G : Good E) {x1 y1 x2 y2 x3 y3 : Fin n} (h1 : OnC E.a E.b x1 y1) (h2 : OnC E.a E.b x2 y2) (h3 : OnC E.a E.b x3 y3)
  (n12 : ¬ (x1 = x2 ∧ y1 + y2 = 0)) (n32 : ¬ (x3 = x2 ∧ y3 + y2 = 0))
  (nl : E.add (some (x1,y1)) (some (x2,y2)) ≠ neg (some (x3,y3))) (nr : E.add (some (x3,y3)) (some (x2,y2)) ≠ neg (some (x1,y1))) :
  E.add (E.add (some (x1,y1)) (some (x2,y2))) (some (x3,y3)) = E.add (E.add (some (x3,y3)) (some (x2,y2))) (some (x1,y1)):=by
 have hl:=zbk G h1 h2 n12
 have hm:=zbk G h3 h2 n32
 have el:=zdp G h1 h2 n12 hl
 have em:=zdp G h3 h2 n32 hm
 generalize E.lam x1 y1 x2 y2 = l at hl el
 generalize E.lam x3 y3 x2 y2 = m at hm em
 rw [el] at nl ⊢
 rw [em] at nr ⊢
 have onD : E.on (third x1 y1 x2 l):=zgt h1 hl
 have onF : E.on (third x3 y3 x2 m):=zgt h3 hm
 unfold third at nl nr onD onF ⊢
 have nD : ¬ (l * l - x1 - x2 = x3 ∧ l * (x1 - (l * l - x1 - x2)) - y1 + y3 = 0):=by
  intro h
  refine nl ?_
  rw [opp_eq h]
  exact (zdj _).symm
 have nF : ¬ (m * m - x3 - x2 = x1 ∧ m * (x3 - (m * m - x3 - x2)) - y3 + y1 = 0):=by
  intro h
  refine nr ?_
  rw [opp_eq h]
  exact (zdj _).symm
 have hs:=zbk G onD h3 nD
 have ht:=zbk G onF h1 nF
 rw [zdp G onD h3 nD hs,zdp G onF h1 nF ht,zgb hs,zgb ht]
 generalize E.lam (l * l - x1 - x2) _ x3 y3 = s at hs
 generalize E.lam (m * m - x3 - x2) _ x1 y1 = t at ht
 by_cases hlm : l = m
 ·
  subst hlm
  have hR:=keyR hl (zeg hm)
  have e : (x1 - x3) * (x1 + x2 + x3 - l * l) = 0:=by clear hs ht nD nF nl nr onD onF n12 n32 h1 h2 h3 hl hm el em; grobner
  have hy1:=mv1 hl.1
  have hy3:=mv1 hm.1
  rcases G.hz _ _ e with h | h
  ·
   have hx : x1 = x3:=eq_of_sub h
   have hy : y1 = y3:=by rw [hy1,hy3,hx]
   subst hx
   subst hy
   have:=slope_uniq G.hz nD hs ht
   rw [this]
  ·
   refine absurd ⟨?_,?_⟩ nD
   ·
    clear hs ht nD nF nl nr onD onF n12 n32 h1 h2 h3 hl hm el em hR e hy1 hy3; grobner
   ·
    have e2 : l * l - x1 - x2 = x3:=by clear hs ht nD nF nl nr onD onF n12 n32 h1 h2 h3 hl hm el em hR e hy1 hy3; grobner
    rw [e2,hy1,hy3]
    clear hs ht nD nF nl nr onD onF n12 n32 h1 h2 h3 hl hm el em hR e hy1 hy3 h e2
    grobner
 ·
  have k1:=key G.hz hlm hl (zeg hm) hs nD
  have k2:=key G.hz (fun h => hlm h.symm) hm (zeg hl) ht nF
  have hk : (l - m) * (s + l - (t + m)) = 0:=by clear hs ht nD nF nl nr onD onF n12 n32 h1 h2 h3 hl hm el em; grobner
  have hk2 : s = t + m - l:=by
   rcases G.hz _ _ hk with h | h
   ·
    exact absurd (eq_of_sub h) hlm
   ·
    clear hs ht nD nF nl nr onD onF n12 n32 h1 h2 h3 hl hm el em hk k1 k2; grobner
  have hy1:=mv1 hl.1
  have hy3:=mv1 hm.1
  have hx : x3 = x1 + (m - l) * (t + m):=by rw [k2]; clear hs ht nD nF nl nr onD onF n12 n32 h1 h2 h3 hl hm el em hk k1 k2; grobner
  clear hs ht nD nF nl nr onD onF n12 n32 h1 h2 h3 hl hm el em hk k1 k2
  unfold third
  have ex : s * s - x3 - (l * l - x1 - x2) = t * t - x1 - (m * m - x3 - x2):=by
   clear hy1 hy3
   subst hk2
   subst hx
   grobner
  rw [ex]
  have ey : s * (x3 - (t * t - x1 - (m * m - x3 - x2))) - y3 = t * (x1 - (t * t - x1 - (m * m - x3 - x2))) - y1:=by
   clear ex
   subst hy1
   subst hy3
   subst hk2
   subst hx
   grobner
  rw [ey]
theorem assoc (G : Good E) {p q r : P n} (hp : E.on p) (hq : E.on q) (hr : E.on r) : E.add (E.add p q) r = E.add p (E.add q r):=by
 have hpq:=on_add G hp hq
 have hqr:=on_add G hq hr
 rcases p with _ | ⟨x1,y1⟩
 ·
  rw [none_add,none_add]
 rcases q with _ | ⟨x2,y2⟩
 ·
  rw [none_add,add_none]
 rcases r with _ | ⟨x3,y3⟩
 ·
  rw [add_none,add_none]
 by_cases n12 : x1 = x2 ∧ y1 + y2 = 0
 ·
  rw [zcj E n12,none_add,opp_eq n12]
  exact (fore G hp hr).symm
 by_cases n32 : x3 = x2 ∧ y3 + y2 = 0
 ·
  rw [zcj E (opp_symm n32),add_none,opp_eq n32,zbe G (on_add G hp (zdi hr)) hr,zbe G hp (zdi hr)]
  exact fore G hr hp
 by_cases nl : E.add (some (x1,y1)) (some (x2,y2)) = neg (some (x3,y3))
 ·
  have h:=rot G hp hq
  rw [nl,zdj] at h
  rw [nl,h,zfv,zbe G (zdi hr) hr,zfv]
 by_cases nr : E.add (some (x3,y3)) (some (x2,y2)) = neg (some (x1,y1))
 ·
  have h:=rot G hr hq
  rw [nr,zdj] at h
  rw [zbe G hq hr,nr,zfv,zbe G hp hq,h,zbe G (zdi hr) hr,zfv]
 rw [two_ways G hp hq hr n12 n32 nl nr,zbe G (on_add G hr hq) hp,zbe G hr hq]
end law
theorem php : ∀ (b a : Nat) (f : Nat → Nat),(∀ i,i < a → f i < b) → (∀ i j,i < a → j < a → f i = f j → i = j) → a ≤ b:=by
 intro b
 induction b with
 | zero =>
  intro a f h _
  rcases Nat.eq_zero_or_pos a with h0 | h0
  ·
   omega
  ·
   have:=h 0 h0; omega
 | succ b ih =>
  intro a f h inj
  rcases a with _ | a
  ·
   omega
  ·
   have hv:=h a (by omega)
   have:=ih a (fun i => if f i = b then f a else f i) (by
    intro i hi
    have h1:=h i (by omega)
    by_cases e : f i = b
    ·
     rw [if_pos e]
     have : f a ≠ b:=fun e2 => by have:=inj i a (by omega) (by omega) (by rw [e,e2]); omega
     omega
    ·
     rw [if_neg e]; omega) (by
    intro i j hi hj e
    have ha : ∀ k,k < a → f k ≠ f a:=fun k hk e2 => by have:=inj k a (by omega) (by omega) e2; omega
    have e : (if f i = b then f a else f i) = (if f j = b then f a else f j):=e
    by_cases e1 : f i = b <;> by_cases e2 : f j = b
    ·
     exact inj i j (by omega) (by omega) (by rw [e1,e2])
    ·
     rw [if_pos e1,if_neg e2] at e; exact absurd e.symm (ha j hj)
    ·
     rw [if_neg e1,if_pos e2] at e; exact absurd e (ha i hi)
    ·
     rw [if_neg e1,if_neg e2] at e; exact inj i j (by omega) (by omega) e)
   omega
structure Ab (α : Type) where
 op : α → α → α
 o : α
 ng : α → α
 comm : ∀ p q,op p q = op q p
 assoc : ∀ p q r,op (op p q) r = op p (op q r)
 ido : ∀ p,op o p = p
 ngo : ∀ p,op p (ng p) = o
namespace Ab
variable {α : Type} (A : Ab α)
theorem oid (p : α) : A.op p A.o = p:=by rw [A.comm,A.ido]
theorem back (p q : α) : A.op (A.op p q) (A.ng q) = p:=by rw [A.assoc,A.ngo,A.oid]
def mul : Nat → α → α
 | 0,_ => A.o
 | k + 1,p => A.op (mul k p) p
theorem mul_succ (k : Nat) (p : α) : A.mul (k + 1) p = A.op (A.mul k p) p:=rfl
theorem mul_add (i k : Nat) (p : α) : A.mul (i + k) p = A.op (A.mul i p) (A.mul k p):=by
 induction k with
 | zero => show A.mul i p = A.op (A.mul i p) A.o; rw [A.oid]
 | succ k ih => show A.op (A.mul (i + k) p) p = A.op (A.mul i p) (A.op (A.mul k p) p); rw [ih,A.assoc]
theorem mul_one (p : α) : A.mul 1 p = p:=A.ido p
variable {A}
end Ab
def Pr (q : Nat) : Prop:=q ≠ 1 ∧ ∀ d,d ∣ q → d = 1 ∨ d = q
def prodl : List Nat → Nat
 | [] => 1
 | q :: l => q * prodl l
theorem pr_in : ∀ (l : List Nat) (c : Nat),(∀ q,q ∈ l → Pr q) → c ∣ prodl l → c ≠ 1 → ∃ q,q ∈ l ∧ q ∣ c
 | [],c,_,h,h1 => absurd (Nat.eq_one_of_dvd_one h) h1
 | q :: l,c,hp,h,h1 => by
  rcases (hp q (List.mem_cons_self)).2 _ (Nat.gcd_dvd_right c q) with h2 | h2
  ·
   have h3 : c ∣ prodl l:=Nat.Coprime.dvd_of_dvd_mul_left h2 h
   obtain ⟨r,hr,hr2⟩:=pr_in l c (fun r hr => hp r (List.mem_cons_of_mem _ hr)) h3 h1
   exact ⟨r,List.mem_cons_of_mem _ hr,hr2⟩
  ·
   exact ⟨q,List.mem_cons_self,by rw [← h2]; exact Nat.gcd_dvd_left c q⟩
theorem part_of {l : List Nat} {N d : Nat} (hl : prodl l = N) (hp : ∀ q,q ∈ l → Pr q) (h0 : 0 < N) (hd : d ∣ N) (hne : d ≠ N) : ∃ q,q ∈ l ∧ d ∣ N / q:=by
 obtain ⟨c,hc⟩:=hd
 have hc1 : c ≠ 1:=fun h => hne (by rw [hc,h,Nat.mul_one])
 obtain ⟨q,hq,k,hk⟩:=pr_in l c hp ⟨d,by rw [hl,hc,Nat.mul_comm]⟩ hc1
 refine ⟨q,hq,k,?_⟩
 have hq0 : 0 < q:=by
  rcases Nat.eq_zero_or_pos q with h | h
  ·
   subst h; rw [Nat.zero_mul] at hk; subst hk; rw [Nat.mul_zero] at hc; omega
  ·
   exact h
 rw [hc,hk,Nat.mul_left_comm,Nat.mul_div_cancel_left _ hq0]
section power
variable {n : Nat} [NeZero n]
theorem val_one (hn : 1 < n) : (1 : Fin n).val = 1:=by
 show 1 % n = 1
 exact Nat.mod_eq_of_lt hn
def pf (g : Fin n) : Nat → Fin n
 | 0 => 1
 | k + 1 => pf g k * g
theorem zex (x : Fin n) : x * 1 = x:=by grobner
theorem zea (x : Fin n) : 1 * x = x:=by grobner
theorem zdk (x y z : Fin n) : x * y * z = x * (y * z):=by grobner
theorem zeb (x y : Fin n) : x * y = y * x:=by grobner
theorem pf_add (g : Fin n) (i k : Nat) : pf g (i + k) = pf g i * pf g k:=by
 induction k with
 | zero => exact (zex _).symm
 | succ k ih => show pf g (i + k) * g = pf g i * (pf g k * g); rw [ih,zdk]
theorem pf_one (k : Nat) : pf (1 : Fin n) k = 1:=by
 induction k with
 | zero => rfl
 | succ k ih => show pf 1 k * 1 = 1; rw [ih,zex]
theorem pf_mul (g : Fin n) (i k : Nat) : pf g (i * k) = pf (pf g i) k:=by
 induction k with
 | zero => rfl
 | succ k ih => rw [Nat.mul_succ,pf_add,ih]; rfl
theorem pf_gcd (g : Fin n) (i k : Nat) : pf g i = 1 → pf g k = 1 → pf g (Nat.gcd i k) = 1:=by
 refine Nat.gcd.induction i k ?_ ?_
 ·
  intro k _ h
  rwa [Nat.gcd_zero_left]
 ·
  intro i k hi ih h1 h2
  rw [Nat.gcd_rec]
  refine ih ?_ h1
  have e:=Nat.div_add_mod k i
  rw [← e,pf_add,pf_mul,h1,pf_one,zea] at h2
  exact h2
theorem pf_dvd (g : Fin n) {i k : Nat} (h : i ∣ k) (h1 : pf g i = 1) : pf g k = 1:=by
 obtain ⟨c,rfl⟩:=h
 rw [pf_mul,h1,pf_one]
structure Root (g : Fin n) : Prop where
 one : pf g (n - 1) = 1
 all : ∀ x : Fin n,x ≠ 0 → ∃ i,x = pf g i
theorem root_of {g : Fin n} {l : List Nat} (hn : 1 < n) (hl : prodl l = n - 1) (hp : ∀ q,q ∈ l → Pr q) (h1 : pf g (n - 1) = 1) (hq : ∀ q,q ∈ l → pf g ((n - 1) / q) ≠ 1) : Root g:=by
 refine ⟨h1,?_⟩
 have z1 : (0 : Fin n) ≠ 1:=by
  intro h
  have h : (0 : Fin n).val = (1 : Fin n).val:=congrArg Fin.val h
  rw [Fin.val_zero,val_one hn] at h
  omega
 have big : ∀ e,0 < e → e < n - 1 → pf g e ≠ 1:=by
  intro e h0 h2 h3
  have h4:=pf_gcd g (n - 1) e h1 h3
  have hle:=Nat.le_of_dvd h0 (Nat.gcd_dvd_right (n - 1) e)
  obtain ⟨q,hql,hqd⟩:=part_of hl hp (by omega) (Nat.gcd_dvd_left (n - 1) e) (by omega)
  exact hq q hql (pf_dvd g hqd h4)
 have nz : ∀ i,i < n → pf g i ≠ 0:=by
  intro i hi h
  have e : pf g (i + (n - 1 - i)) = 1 ∨ i = n - 1 + 1:=by
   left
   rw [show i + (n - 1 - i) = n - 1 by omega,h1]
  rcases e with e | e
  ·
   rw [pf_add,h] at e
   exact z1 (by rw [← e]; grobner)
  ·
   omega
 have inj : ∀ i j,i < j → j < n → 0 < i → pf g i ≠ pf g j:=by
  intro i j h2 h3 h0 h
  refine big (j - i) (by omega) (by omega) ?_
  have e1 : pf g i * pf g (n - 1 - i) = 1:=by rw [← pf_add,show i + (n - 1 - i) = n - 1 by omega,h1]
  have e2 : pf g j = pf g (j - i) * pf g i:=by rw [← pf_add,show j - i + i = j by omega]
  rw [e2] at h
  have e3 : pf g i * pf g (n - 1 - i) = pf g (j - i) * (pf g i * pf g (n - 1 - i)):=by rw [← zdk,← h]
  rw [e1,zex] at e3
  exact e3.symm
 intro x hx
 refine Classical.byContradiction fun hno => ?_
 have hx0 : x.val ≠ 0:=fun h => hx (Fin.ext (by rw [h,Fin.val_zero]))
 have hno2 : ∀ i,(pf g i).val ≠ x.val:=fun i h => hno ⟨i,Fin.ext h.symm⟩
 have nz2 : ∀ i,i < n → (pf g i).val ≠ 0:=fun i hi h => nz i hi (Fin.ext (by rw [h,Fin.val_zero]))
 have:=php (n - 2) (n - 1) (fun i => if (pf g (i + 1)).val = n - 1 then x.val - 1 else (pf g (i + 1)).val - 1) (by
  intro i hi
  have a1:=nz2 (i + 1) (by omega)
  have a2:=(pf g (i + 1)).isLt
  have a3:=hno2 (i + 1)
  have a4:=x.isLt
  show (if (pf g (i + 1)).val = n - 1 then x.val - 1 else (pf g (i + 1)).val - 1) < n - 2
  split <;> omega) (by
  intro i j hi hj h
  have h : (if (pf g (i + 1)).val = n - 1 then x.val - 1 else (pf g (i + 1)).val - 1) = (if (pf g (j + 1)).val = n - 1 then x.val - 1 else (pf g (j + 1)).val - 1):=h
  have a1:=nz2 (i + 1) (by omega)
  have b1:=nz2 (j + 1) (by omega)
  have a3:=hno2 (i + 1)
  have b3:=hno2 (j + 1)
  have e : (pf g (i + 1)).val = (pf g (j + 1)).val:=by
   split at h <;> split at h <;> omega
  have e : pf g (i + 1) = pf g (j + 1):=Fin.ext e
  rcases Nat.lt_trichotomy i j with h3 | h3 | h3
  ·
   exact absurd e (inj _ _ (by omega) (by omega) (by omega))
  ·
   exact h3
  ·
   exact absurd e.symm (inj _ _ (by omega) (by omega) (by omega)))
 omega
theorem root_inv {g : Fin n} (h : Root g) {x : Fin n} (hx : x ≠ 0) : pf x (n - 1) = 1:=by
 obtain ⟨i,rfl⟩:=h.all x hx
 rw [← pf_mul,Nat.mul_comm,pf_mul,h.one,pf_one]
theorem zfr {g : Fin n} (h : Root g) (hn : 1 < n) {x : Fin n} (hx : x ≠ 0) : x * pf x (n - 2) = 1:=by
 have:=root_inv h hx
 rw [show n - 1 = n - 2 + 1 by omega] at this
 rw [zeb]
 exact this
theorem root_noz {g : Fin n} (h : Root g) (hn : 1 < n) (x y : Fin n) (e : x * y = 0) : x = 0 ∨ y = 0:=by
 by_cases hx : x = 0
 ·
  exact Or.inl hx
 ·
  have hi:=zfr h hn hx
  generalize pf x (n - 2) = i at hi
  right
  have : y = x * i * y:=by rw [hi,zea]
  rw [this,zeb x i,zdk,e]
  clear this hi e hx h
  grobner
theorem root_pr {g : Fin n} (h : Root g) (hn : 1 < n) : Pr n:=by
 refine ⟨by omega,fun d hd => ?_⟩
 have hle:=Nat.le_of_dvd (by omega) hd
 rcases Nat.lt_or_ge d n with hlt | hge
 ·
  left
  have hd0 : 0 < d:=Nat.pos_of_dvd_of_pos hd (by omega)
  have hx : (⟨d,hlt⟩ : Fin n) ≠ 0:=fun e => by have:=congrArg Fin.val e; rw [Fin.val_zero] at this; have this : d = 0:=this; omega
  have hi:=zfr h hn hx
  generalize pf (⟨d,hlt⟩ : Fin n) (n - 2) = i at hi
  have hi:=congrArg Fin.val hi
  rw [Fin.val_mul,val_one hn] at hi
  have hi : d * i.val % n = 1:=hi
  have h2 : d ∣ d * i.val % n:=(Nat.dvd_mod_iff hd).mpr ⟨i.val,rfl⟩
  rw [hi] at h2
  exact Nat.eq_one_of_dvd_one h2
 ·
  right; omega
end power
def pw (m : Nat) : Nat → Nat → Nat → Nat
 | 0,_,_ => 1 % m
 | f + 1,b,e => if e = 0 then 1 % m else if e % 2 = 1 then b * pw m f (b * b % m) (e / 2) % m else pw m f (b * b % m) (e / 2)
section number
variable {n : Nat} [NeZero n]
def F (x : Nat) : Fin n:=⟨x % n,Nat.mod_lt _ (Nat.pos_of_ne_zero (NeZero.ne n))⟩
theorem F_mod (x : Nat) : (F (x % n) : Fin n) = F x:=Fin.ext (Nat.mod_mod _ _)
theorem F_mul (x y : Nat) : (F (x * y) : Fin n) = F x * F y:=Fin.ext (by rw [Fin.val_mul]; exact Nat.mul_mod _ _ _)
theorem F_add (x y : Nat) : (F (x + y) : Fin n) = F x + F y:=Fin.ext (by rw [Fin.val_add]; exact Nat.add_mod _ _ _)
theorem F_val (x : Fin n) : F x.val = x:=Fin.ext (Nat.mod_eq_of_lt x.isLt)
theorem pf_sq (x : Fin n) (k : Nat) : pf (x * x) k = pf x (2 * k):=by
 rw [pf_mul]
 congr 1
 show x * x = 1 * x * x
 rw [zea]
theorem pw_pf : ∀ (f b e : Nat),e < 2 ^ f → pw n f b e = (pf (F b : Fin n) e).val
 | 0,b,e,h => by
  have : e = 0:=by omega
  subst this
  rfl
 | f + 1,b,e,h => by
  unfold pw
  have hd : e / 2 < 2 ^ f:=by rw [Nat.pow_succ] at h; omega
  have ih:=pw_pf f (b * b % n) (e / 2) hd
  rw [F_mod,F_mul,pf_sq] at ih
  by_cases h0 : e = 0
  ·
   rw [if_pos h0,h0]; rfl
  ·
   rw [if_neg h0]
   by_cases h1 : e % 2 = 1
   ·
    rw [if_pos h1,ih]
    have e1 : e = 2 * (e / 2) + 1:=by omega
    generalize e / 2 = k at e1
    subst e1
    show _ = (pf (F b) (2 * k) * F b).val
    rw [Fin.val_mul,Nat.mul_comm]
    show (pf (F b : Fin n) (2 * k)).val * b % n = (pf (F b : Fin n) (2 * k)).val * (b % n) % n
    rw [Nat.mul_mod _ (b % n),Nat.mod_mod,← Nat.mul_mod]
   ·
    rw [if_neg h1,ih]
    congr 2
    omega
end number
def rowOk (ps : List Nat) (r : Nat × Nat × List Nat) : Bool :=
 decide (1 < r.1) && decide (r.1 < 2 ^ 256) && decide (prodl r.2.2 = r.1 - 1) && r.2.2.all (fun q => ps.contains q) && decide (pw r.1 256 r.2.1 (r.1 - 1) = 1) && r.2.2.all (fun q => decide (pw r.1 256 r.2.1 ((r.1 - 1) / q) ≠ 1))
theorem row_root {ps : List Nat} {n g : Nat} {l : List Nat} [NeZero n] (hp : ∀ q,q ∈ ps → Pr q) (h : rowOk ps (n,g,l) = true) : 1 < n ∧ Root (F g : Fin n):=by
 unfold rowOk at h
 simp only [Bool.and_eq_true,decide_eq_true_eq,List.all_eq_true] at h
 obtain ⟨⟨⟨⟨⟨h1,h2⟩,h3⟩,h4⟩,h5⟩,h6⟩:=h
 have h5 : pw n 256 g (n - 1) = 1:=h5
 have h1 : 1 < n:=h1
 have h2 : n < 2 ^ 256:=h2
 refine ⟨h1,root_of (l:=l) h1 h3 (fun q hq => hp q (by have:=h4 q hq; exact List.contains_iff_mem.mp this)) ?_ ?_⟩
 ·
  apply Fin.ext
  exact (pw_pf (n:=n) 256 g (n - 1) (Nat.lt_of_le_of_lt (Nat.sub_le _ _) h2)).symm.trans (h5.trans (val_one h1).symm)
 ·
  intro q hq e
  have h6 : pw n 256 g ((n - 1) / q) ≠ 1:=h6 q hq
  refine h6 ?_
  have e2:=pw_pf (n:=n) 256 g ((n - 1) / q) (Nat.lt_of_le_of_lt (Nat.div_le_self _ _) (Nat.lt_of_le_of_lt (Nat.sub_le _ _) h2))
  rw [e2]
  exact (congrArg Fin.val e).trans (val_one h1)
def tabOk : List Nat → List (Nat × Nat × List Nat) → Bool
 | _,[] => true
 | ps,r :: t => rowOk ps r && tabOk (r.1 :: ps) t
theorem row_pr {ps : List Nat} {r : Nat × Nat × List Nat} (hp : ∀ q,q ∈ ps → Pr q) (h : rowOk ps r = true) : Pr r.1:=by
 obtain ⟨n,g,l⟩:=r
 show Pr n
 have h1 : 1 < n:=by
  unfold rowOk at h
  simp only [Bool.and_eq_true,decide_eq_true_eq] at h
  exact h.1.1.1.1.1
 haveI : NeZero n:=⟨by omega⟩
 exact root_pr (row_root hp h).2 h1
theorem tab_pr : ∀ (t : List (Nat × Nat × List Nat)) (ps : List Nat),(∀ q,q ∈ ps → Pr q) → tabOk ps t = true → ∀ r,r ∈ t → Pr r.1 ∧ ∃ ps',(∀ q,q ∈ ps' → Pr q) ∧ rowOk ps' r = true
 | [],_,_,_,r,hr => absurd hr List.not_mem_nil
 | r0 :: t,ps,hp,h,r,hr => by
  have h : (rowOk ps r0 && tabOk (r0.1 :: ps) t) = true:=h
  rw [Bool.and_eq_true] at h
  have h0:=row_pr hp h.1
  rcases List.mem_cons.mp hr with e | e
  ·
   rw [e]; exact ⟨h0,ps,hp,h.1⟩
  ·
   refine tab_pr t (r0.1 :: ps) ?_ h.2 r e
   intro q hq
   rcases List.mem_cons.mp hq with e | e
   ·
    rw [e]; exact h0
   ·
    exact hp q e
theorem pr_two : Pr 2:=by
 refine ⟨by decide,fun d hd => ?_⟩
 have:=Nat.le_of_dvd (by decide) hd
 have h0 : d ≠ 0:=by rintro rfl; omega
 omega
def tab : List (Nat × Nat × List Nat):=[
 (257,3,[2,2,2,2,2,2,2,2]),
 (3,2,[2]),
 (5,2,[2,2]),
 (641,3,[2,2,2,2,2,2,2,5]),
 (65537,3,[2,2,2,2,2,2,2,2,2,2,2,2,2,2,2,2]),
 (11,2,[2,5]),
 (727,5,[2,3,11,11]),
 (17449,14,[2,2,2,3,727]),
 (6700417,5,[2,2,2,2,2,2,2,3,17449]),
 (241,7,[2,2,2,2,3,5]),
 (2411,6,[2,5,241]),
 (17,3,[2,2,2,2]),
 (7,3,[2,3]),
 (197,2,[2,2,7,7]),
 (43,3,[2,3,7]),
 (173,2,[2,2,43]),
 (13,2,[2,2,3]),
 (53,2,[2,2,13]),
 (919,7,[2,3,3,3,17]),
 (3677,2,[2,2,919]),
 (66417393611,6,[2,5,53,173,197,3677]),
 (11290956913871,13,[2,5,17,66417393611]),
 (181,2,[2,2,3,3,5]),
 (1087,3,[2,3,181]),
 (4349,2,[2,2,1087]),
 (78283,3,[2,3,3,4349]),
 (23,5,[2,11]),
 (757,2,[2,2,3,3,3,7]),
 (18169,11,[2,2,2,3,757]),
 (313,10,[2,2,2,3,13]),
 (704251,2,[2,3,3,5,5,5,313]),
 (46076956964474543,5,[2,23,18169,78283,704251]),
 (107,2,[2,53]),
 (157,5,[2,2,3,13]),
 (3769,7,[2,2,2,3,157]),
 (204061199,11,[2,11,23,107,3769]),
 (34282281433,17,[2,2,2,3,7,204061199]),
 (0x22b559b5c816ae00f2378e18df38c5410ed597,3,[2,3,3,2411,34282281433,11290956913871,46076956964474543]),
 (0x926d1276e41fae13fdda5f78edb7802a76951509,11,[2,2,2,3,3,3,5,0x22b559b5c816ae00f2378e18df38c5410ed597]),
 (1531,2,[2,3,3,5,17]),
 (661,2,[2,2,3,5,11]),
 (490463,14,[2,7,53,661]),
 (0xffffffff00000001000000000000000000000000ffffffffffffffffffffffff,6,[2,3,5,5,17,257,641,1531,65537,490463,6700417,0x926d1276e41fae13fdda5f78edb7802a76951509]),
 (131,2,[2,5,13]),
 (71,7,[2,5,7]),
 (37,2,[2,2,3,3]),
 (9547,2,[2,3,37,43]),
 (38189,2,[2,2,9547]),
 (3407,5,[2,13,131]),
 (263,5,[2,131]),
 (126241,7,[2,2,2,2,2,3,5,263]),
 (19,2,[2,3,3]),
 (337,10,[2,2,2,2,3,7]),
 (31,3,[2,3,5]),
 (104471,11,[2,5,31,337]),
 (3969899,2,[2,19,104471]),
 (1002328039319,19,[2,126241,3969899]),
 (97,5,[2,2,2,2,2,3]),
 (29,2,[2,2,7]),
 (16879,3,[2,3,29,97]),
 (1297,10,[2,2,2,2,3,3,3,3]),
 (41,6,[2,2,2,5]),
 (155317,5,[2,2,3,7,43,43]),
 (191039911,3,[2,3,5,41,155317]),
 (151,6,[2,3,5,5]),
 (1511,11,[2,5,151]),
 (3023,5,[2,1511]),
 (127,3,[2,3,3,7]),
 (208150935158385979,2,[2,3,11,43,127,3023,191039911]),
 (2624747550333869278416773953,7,[2,2,2,2,2,2,3,3,1297,16879,208150935158385979]),
 (373,2,[2,2,3,31]),
 (311,17,[2,5,31]),
 (311245691,2,[2,5,7,17,29,29,311]),
 (622491383,5,[2,311245691]),
 (1201,11,[2,2,2,2,3,5,5]),
 (229,6,[2,2,3,19]),
 (9350987,2,[2,17,229,1201]),
 (187019741,2,[2,2,5,9350987]),
 (0xffffffff00000000ffffffffffffffffbce6faada7179e84f3b9cac2fc632551,7,[2,2,2,2,3,71,131,373,3407,17449,38189,187019741,622491383,1002328039319,2624747550333869278416773953])]
theorem tab_ok : tabOk [2] tab = true:=by decide +kernel
def pp : Nat:=0xffffffff00000001000000000000000000000000ffffffffffffffffffffffff
def nn : Nat:=0xffffffff00000000ffffffffffffffffbce6faada7179e84f3b9cac2fc632551
instance : NeZero pp:=⟨by decide +kernel⟩
instance : NeZero nn:=⟨by decide +kernel⟩
theorem two_only : ∀ q,q ∈ [2] → Pr q:=by
 intro q hq
 have : q = 2:=List.mem_singleton.mp hq
 rw [this]
 exact pr_two
theorem pp_root : ∃ g : Fin pp,Root g:=by
 obtain ⟨ps,hp,h⟩:=(tab_pr tab [2] two_only tab_ok (0xffffffff00000001000000000000000000000000ffffffffffffffffffffffff,6,[2,3,5,5,17,257,641,1531,65537,490463,6700417,0x926d1276e41fae13fdda5f78edb7802a76951509]) (by decide +kernel)).2
 exact ⟨_,(row_root (n:=pp) hp h).2⟩
theorem nn_pr : Pr nn:=(tab_pr tab [2] two_only tab_ok (0xffffffff00000000ffffffffffffffffbce6faada7179e84f3b9cac2fc632551,7,[2,2,2,2,3,71,131,373,3407,17449,38189,187019741,622491383,1002328039319,2624747550333869278416773953]) (by decide +kernel)).1
/-! P-256. -/
def bb : Nat:=0x5ac635d8aa3a93e7b3ebbd55769886bc651d06b0cc53b0f63bce3c3e27d2604b
def gx : Nat:=0x6b17d1f2e12c4247f8bce6e563a440f277037d812deb33a0f4a13945d898c296
def gy : Nat:=0x4fe342e2fe1a7f9b8ee7eb4a7c0f9e162bce33576b315ececbb6406837bf51f5
def E256 : Cur pp:={ a:=F (pp - 3),b:=F bb,inv:=fun x => pf x (pp - 2) }
theorem pp_big : 3 < pp:=by decide +kernel
theorem F_pp : (F pp : Fin pp) = 0:=Fin.ext (Nat.mod_self pp)
theorem F_one : (F 1 : Fin pp) = 1:=rfl
theorem F_zero : (F 0 : Fin pp) = 0:=rfl
theorem F_three : (F 3 : Fin pp) = 3:=rfl
def sb (x y : Nat) : Nat:=(x + (pp - y % pp)) % pp
theorem F_p3 : (F (pp - 3) : Fin pp) = - 3:=by
 have e : (F (pp - 3) : Fin pp) + 3 = 0:=by
  rw [← F_three,← F_add,Nat.sub_add_cancel (Nat.le_of_lt pp_big),F_pp]
 generalize (F (pp - 3) : Fin pp) = z at e ⊢
 grobner
def tm (u v : Nat × Nat × Nat) : Nat × Nat × Nat :=
 let r3:=u.2.1 * v.2.2 + u.2.2 * v.2.1
 let r4:=u.2.2 * v.2.2
 ((u.1 * v.1 + (pp - bb) * r3) % pp,(u.1 * v.2.1 + u.2.1 * v.1 + 3 * r3 + (pp - bb) * r4) % pp,(u.1 * v.2.2 + u.2.1 * v.2.1 + u.2.2 * v.1 + 3 * r4) % pp)
def ev (u : Nat × Nat × Nat) (r : Fin pp) : Fin pp:=F u.1 + F u.2.1 * r + F u.2.2 * (r * r)
theorem F_bb : (F (pp - bb) : Fin pp) = - F bb:=by
 have e : (F (pp - bb) : Fin pp) + F bb = 0:=by
  rw [← F_add,Nat.sub_add_cancel (by decide +kernel),F_pp]
 generalize (F (pp - bb) : Fin pp) = z at e ⊢
 generalize (F bb : Fin pp) = v at e ⊢
 grobner
theorem ring_tm {n : Nat} [NeZero n] (a0 a1 a2 b0 b1 b2 b r : Fin n) (h : r * r * r = 3 * r - b) : (a0 * b0 + - b * (a1 * b2 + a2 * b1)) + (a0 * b1 + a1 * b0 + 3 * (a1 * b2 + a2 * b1) + - b * (a2 * b2)) * r + (a0 * b2 + a1 * b1 + a2 * b0 + 3 * (a2 * b2)) * (r * r) = (a0 + a1 * r + a2 * (r * r)) * (b0 + b1 * r + b2 * (r * r)):=by
 have : b = 3 * r - r * r * r:=by grobner
 subst this
 clear h
 grobner
theorem tm_ev {r : Fin pp} (h : r * r * r = 3 * r - F bb) (u v : Nat × Nat × Nat) : ev (tm u v) r = ev u r * ev v r:=by
 obtain ⟨a0,a1,a2⟩:=u
 obtain ⟨b0,b1,b2⟩:=v
 unfold tm ev
 dsimp only
 rw [F_mod,F_mod,F_mod]
 simp only [F_add,F_mul]
 rw [F_bb,F_three]
 exact ring_tm _ _ _ _ _ _ _ _ h
def tp : Nat → Nat × Nat × Nat → Nat → Nat × Nat × Nat
 | 0,_,_ => (1,0,0)
 | f + 1,u,e => if e = 0 then (1,0,0) else if e % 2 = 1 then tm u (tp f (tm u u) (e / 2)) else tp f (tm u u) (e / 2)
theorem ring_one {n : Nat} [NeZero n] (r : Fin n) : 1 + 0 * r + 0 * (r * r) = 1:=by grobner
theorem ev_one (r : Fin pp) : ev (1,0,0) r = 1:=by
 unfold ev
 dsimp only
 rw [F_one,F_zero]
 exact ring_one r
theorem tp_ev {r : Fin pp} (h : r * r * r = 3 * r - F bb) : ∀ (f : Nat) (u : Nat × Nat × Nat) (e : Nat),e < 2 ^ f → ev (tp f u e) r = pf (ev u r) e
 | 0,u,e,he => by
  have : e = 0:=by omega
  subst this
  exact ev_one r
 | f + 1,u,e,he => by
  unfold tp
  have hd : e / 2 < 2 ^ f:=by rw [Nat.pow_succ] at he; omega
  have ih:=tp_ev h f (tm u u) (e / 2) hd
  rw [tm_ev h,pf_sq] at ih
  by_cases h0 : e = 0
  ·
   rw [if_pos h0,h0]; exact ev_one r
  ·
   rw [if_neg h0]
   by_cases h1 : e % 2 = 1
   ·
    rw [if_pos h1,tm_ev h,ih]
    have e1 : e = 2 * (e / 2) + 1:=by omega
    generalize e / 2 = k at e1
    subst e1
    exact zeb _ _
   ·
    rw [if_neg h1,ih]
    congr 1
    omega
def tq : Nat × Nat × Nat:=tp 256 (0,1,0) pp
theorem tq_ok : tm (0xa969487079f1744798bf0de6fded091b66e9d328eb0645fe5d979d1339b7f47f,0xa4a08891884100c13323460107a8d28eede4387fa3e6e9bfebec9f6d72d0b5cc,0x4cde11cf86cb876cd59cf0115813c55af0ecd3cda667d98bb9a347a56aa74a6d) (tq.1,tq.2.1 + (pp - 1),tq.2.2) = (1,0,0):=by decide +kernel
theorem no_root (r : Fin pp) : r * r * r + F (pp - 3) * r + F bb ≠ 0:=by
 intro h
 rw [F_p3] at h
 have h3 : r * r * r = 3 * r - F bb:=by
  generalize (F bb : Fin pp) = v at h ⊢
  grobner
 obtain ⟨g,hg⟩:=pp_root
 have e1 : ev tq r = r:=by
  unfold tq
  rw [tp_ev h3 256 _ pp (by decide +kernel)]
  have e0 : ev (0,1,0) r = r:=by
   unfold ev
   dsimp only
   rw [F_one,F_zero]
   clear h h3
   grobner
  rw [e0]
  by_cases hr : r = 0
  ·
   subst hr
   show pf 0 (pp - 1) * 0 = 0
   generalize pf (0 : Fin pp) (pp - 1) = z
   grobner
  ·
   have e2:=root_inv hg hr
   have e3 : pf r (pp - 1 + 1) = pf r (pp - 1) * r:=rfl
   rw [e2,zea,show pp - 1 + 1 = pp by decide +kernel] at e3
   exact e3
 have e2 : ev (tq.1,tq.2.1 + (pp - 1),tq.2.2) r = ev tq r - r:=by
  have e4 : (F (pp - 1) : Fin pp) = - 1:=by
   have e : (F (pp - 1) : Fin pp) + 1 = 0:=by
    rw [← F_one,← F_add,Nat.sub_add_cancel (by decide +kernel),F_pp]
   generalize (F (pp - 1) : Fin pp) = z at e ⊢
   grobner
  unfold ev
  dsimp only
  rw [F_add,e4]
  generalize (F tq.1 : Fin pp) = a0
  generalize (F tq.2.1 : Fin pp) = a1
  generalize (F tq.2.2 : Fin pp) = a2
  clear h h3 e1
  grobner
 have e5:=tm_ev h3 (0xa969487079f1744798bf0de6fded091b66e9d328eb0645fe5d979d1339b7f47f,0xa4a08891884100c13323460107a8d28eede4387fa3e6e9bfebec9f6d72d0b5cc,0x4cde11cf86cb876cd59cf0115813c55af0ecd3cda667d98bb9a347a56aa74a6d) (tq.1,tq.2.1 + (pp - 1),tq.2.2)
 rw [tq_ok,e2,e1,ev_one] at e5
 generalize ev _ r = z at e5
 have z1 : (0 : Fin pp) ≠ 1:=by decide +kernel
 refine z1 ?_
 rw [e5]
 clear e5 h h3 e1 e2
 grobner
theorem good : Good E256:=by
 obtain ⟨g,hg⟩:=pp_root
 have h1 : 1 < pp:=Nat.lt_trans (by decide) pp_big
 exact { hz:=root_noz hg h1,nt:=no_root,two:=by decide +kernel,hinv:=fun x hx => zfr hg h1 hx }
abbrev Q:={ p : P pp // E256.on p }
def grp : Ab Q where
 op p q:=⟨E256.add p.1 q.1,on_add good p.2 q.2⟩
 o:=⟨none,trivial⟩
 ng p:=⟨neg p.1,zdi p.2⟩
 comm p q:=Subtype.ext (zbe good p.2 q.2)
 assoc p q r:=Subtype.ext (assoc good p.2 q.2 r.2)
 ido p:=Subtype.ext (none_add E256 p.1)
 ngo p:=Subtype.ext (zfv E256 p.1)
theorem on_base : E256.on (some (F gx,F gy)):=by
 show F gy * F gy = F gx * F gx * F gx + F (pp - 3) * F gx + F bb
 rw [← F_mul,← F_mul,← F_mul,← F_mul,← F_add,← F_add]
 exact Fin.ext (by decide +kernel)
def base : Q:=⟨some (F gx,F gy),on_base⟩
def eu : Nat → Nat → Nat → Nat → Nat → Nat
 | 0,_,_,s,_ => s
 | f + 1,r,r2,s,s2 => if r2 = 0 then s else eu f r2 (r % r2) s2 ((s + (pp - r / r2 % pp) * s2) % pp)
def iv (x : Nat) : Nat:=eu 600 (x % pp) pp 1 0
def steps' : Nat → Nat → Nat → List (Bool × Nat)
 | 0,_,_ => []
 | i + 1,x,y =>
  (fun l => (true,l) :: (fun x1 y1 => if (nn - 1) / 2 ^ i % 2 = 1 then (fun m => (false,m) :: (fun x2 y2 => steps' i x2 y2) (sb (sb (m * m) x1) gx) (sb (m * sb x1 (sb (sb (m * m) x1) gx)) y1)) (sb gy y1 * iv (sb gx x1) % pp) else steps' i x1 y1) (sb (sb (l * l) x) x) (sb (l * sb x (sb (sb (l * l) x) x)) y)) ((3 * x * x + (pp - 3)) * iv (y + y) % pp)
def steps : List (Bool × Nat):=steps' 255 gx gy
def code : Q → Nat
 | ⟨none,_⟩ => 0
 | ⟨some (x,y),_⟩ => 1 + 2 * x.val + (if y.val ≤ (- y).val then 0 else 1)
/-! How a walk meets these: numbers below the modulus,as values of the field's. -/

theorem pp_pr : Pr pp:=by
 obtain ⟨g,hg⟩:=pp_root
 exact root_pr hg (Nat.lt_trans (by decide) pp_big)
theorem v_add (x y : Fin pp) : (x.val + y.val) % pp = (x + y).val:=(Fin.val_add x y).symm
theorem v_mul (x y : Fin pp) : x.val * y.val % pp = (x * y).val:=(Fin.val_mul x y).symm
theorem v_sub (x y : Fin pp) : (x.val + pp - y.val) % pp = (x - y).val:=by
 have h:=y.isLt
 rw [Fin.sub_def]
 show _ = (pp - y.val + x.val) % pp
 congr 1
 omega
theorem v_gcd {x : Fin pp} (h : x ≠ 0) : Nat.gcd x.val pp = 1:=by
 rcases pp_pr.2 _ (Nat.gcd_dvd_right x.val pp) with h1 | h1
 ·
  exact h1
 ·
  exfalso
  have h2:=Nat.gcd_dvd_left x.val pp
  rw [h1] at h2
  have h0 : x.val ≠ 0:=fun e => h (Fin.ext (by rw [e,Fin.val_zero]))
  have h3:=Nat.le_of_dvd (Nat.pos_of_ne_zero h0) h2
  have:=x.isLt
  omega
theorem v_inv {x : Fin pp} {t : Nat} (ht : t < pp) (h : x.val * t % pp = 1) : t = (E256.inv x).val:=by
 have e1 : x * F t = 1:=by
  apply Fin.ext
  rw [Fin.val_mul]
  show x.val * (t % pp) % pp = 1
  rw [Nat.mod_eq_of_lt ht,h]
 have hx : x ≠ 0:=by
  rintro rfl
  rw [Fin.val_zero,Nat.zero_mul,Nat.zero_mod] at h
  exact absurd h (by decide)
 have e2:=good.hinv x hx
 have e3 : (F t : Fin pp) = E256.inv x:=by
  have : (F t : Fin pp) = x * F t * E256.inv x:=by
   rw [zeb x,zdk,e2,zex]
  rw [this,e1,zea]
 rw [← e3]
 exact (Nat.mod_eq_of_lt ht).symm
theorem ring_on {n : Nat} [NeZero n] (b x y : Fin n) : y * y = x * x * x - 3 * x + b ↔ y * y = x * x * x + - 3 * x + b:=by
 constructor
 ·
  intro h; rw [h]; clear h; grobner
 ·
  intro h; rw [h]; clear h; grobner
theorem on_iff (x y : Fin pp) : E256.on (some (x,y)) ↔ y * y = x * x * x - 3 * x + F bb:=by
 show y * y = x * x * x + F (pp - 3) * x + F bb ↔ _
 rw [F_p3]
 exact (ring_on _ _ _).symm
theorem ring_lam {n : Nat} [NeZero n] (x i : Fin n) : (3 * (x * x) + - 3) * i = 3 * (x * x - 1) * i:=by grobner
theorem lam_same (x y : Fin pp) : E256.lam x y x y = 3 * (x * x - 1) * E256.inv (y + y):=by
 unfold Cur.lam
 rw [if_pos ⟨rfl,rfl⟩]
 show (3 * (x * x) + F (pp - 3)) * _ = _
 rw [F_p3]
 exact ring_lam _ _
theorem lam_else {x1 y1 x2 y2 : Fin pp} (h : ¬ (x1 = x2 ∧ y1 = y2)) : E256.lam x1 y1 x2 y2 = (y2 - y1) * E256.inv (x2 - x1):=if_neg h
theorem ring_neg {n : Nat} [NeZero n] (y1 y2 : Fin n) : y1 = 0 - y2 ↔ y1 + y2 = 0:=by
 constructor
 ·
  intro h; subst h; grobner
 ·
  intro h; grobner
theorem add_far {x1 y1 x2 y2 : Fin pp} (h : x1 = x2 ∧ y1 = 0 - y2) : E256.add (some (x1,y1)) (some (x2,y2)) = none:=zcj E256 ⟨h.1,(ring_neg _ _).mp h.2⟩
theorem add_near {x1 y1 x2 y2 : Fin pp} (h : ¬ (x1 = x2 ∧ y1 = 0 - y2)) : E256.add (some (x1,y1)) (some (x2,y2)) = third x1 y1 x2 (E256.lam x1 y1 x2 y2) :=
 if_neg (fun e => h ⟨e.1,(ring_neg _ _).mpr e.2⟩)
theorem down_same {x y : Fin pp} (h : E256.on (some (x,y))) : y + y ≠ 0:=fun e => y_ne good h (dbl_zero good e)
theorem mul_top (k i : Nat) (q : Q) : grp.mul (k / 2 ^ i) q = (if k / 2 ^ i % 2 = 1 then grp.op (grp.op (grp.mul (k / 2 ^ (i + 1)) q) (grp.mul (k / 2 ^ (i + 1)) q)) q else grp.op (grp.mul (k / 2 ^ (i + 1)) q) (grp.mul (k / 2 ^ (i + 1)) q)):=by
 have e : k / 2 ^ (i + 1) = k / 2 ^ i / 2:=by rw [Nat.pow_succ,Nat.div_div_eq_div_mul]
 rw [e]
 generalize k / 2 ^ i = m
 rw [← grp.mul_add]
 by_cases h : m % 2 = 1
 ·
  rw [if_pos h,← grp.mul_succ]
  congr 1
  omega
 ·
  rw [if_neg h]
  congr 1
  omega
def pX : P pp → Nat
 | none => 0
 | some (x,_) => x.val
def pY : P pp → Nat
 | none => 0
 | some (_,y) => y.val
def pFar : P pp → Bool
 | none => true
 | some _ => false
theorem pX_lt (p : P pp) : pX p < pp:=by
 rcases p with _ | ⟨x,y⟩
 ·
  exact Nat.lt_trans (by decide) pp_big
 ·
  exact x.isLt
theorem pY_lt (p : P pp) : pY p < pp:=by
 rcases p with _ | ⟨x,y⟩
 ·
  exact Nat.lt_trans (by decide) pp_big
 ·
  exact y.isLt
theorem p_inj {p q : P pp} (h1 : pX p = pX q) (h2 : pY p = pY q) (h3 : pFar p = pFar q) : p = q:=by
 rcases p with _ | ⟨x,y⟩ <;> rcases q with _ | ⟨x',y'⟩
 ·
  rfl
 ·
  exact absurd h3 (by simp [pFar])
 ·
  exact absurd h3 (by simp [pFar])
 ·
  rw [show x = x' from Fin.ext h1,show y = y' from Fin.ext h2]
def isOn (X Y : Nat) (far : Bool) : Prop:=if far = true then X = 0 ∧ Y = 0 else X < pp ∧ Y < pp ∧ E256.on (some (F X,F Y))
theorem isOn_iff (X Y : Nat) (far : Bool) : isOn X Y far ↔ ∃ q : Q,X = pX q.1 ∧ Y = pY q.1 ∧ far = pFar q.1:=by
 unfold isOn
 by_cases h : far = true
 ·
  rw [if_pos h]
  subst h
  constructor
  ·
   rintro ⟨rfl,rfl⟩
   exact ⟨grp.o,rfl,rfl,rfl⟩
  ·
   rintro ⟨⟨_ | ⟨x,y⟩,hq⟩,h1,h2,h3⟩
   ·
    exact ⟨h1,h2⟩
   ·
    exact absurd h3 (by simp [pFar])
 ·
  rw [if_neg h]
  have h : far = false:=by simpa using h
  subst h
  constructor
  ·
   rintro ⟨hx,hy,ho⟩
   exact ⟨⟨_,ho⟩,(Nat.mod_eq_of_lt hx).symm,(Nat.mod_eq_of_lt hy).symm,rfl⟩
  ·
   rintro ⟨⟨_ | ⟨x,y⟩,hq⟩,h1,h2,h3⟩
   ·
    exact absurd h3 (by simp [pFar])
   ·
    have h1 : X = x.val:=h1
    have h2 : Y = y.val:=h2
    subst h1
    subst h2
    rw [F_val,F_val]
    exact ⟨x.isLt,y.isLt,hq⟩
end Go.Proofs.YtbfkecfcolcclaaGreatDoor.Pt
namespace Go.Proofs.YtbfkecfcolcclaaGreatDoor
open Go.RowKit
open Go.Value renaming int → vI
open Go.IntKind renaming u64 → vU
open Go.Act renaming put → aP
open List renaming setIfInBounds_toArray → lA, set_cons_zero → lZ, set_cons_succ → lS
theorem zgd : Pt.pp < top:=by decide +kernel
/-! ### points: values,rows,'==' -/
def pc (X Y : Nat) (f : Bool) (j : Nat) : Value:=if j < 4 then .int .u64 (wd X j) else if j < 8 then .int .u64 (wd Y (j - 4)) else .bool f
theorem cells_num : Tryz.prog.cellsOf 58 = 4:=by kernel_rfl
theorem cells_pt : Tryz.prog.cellsOf 60 = 9:=by kernel_rfl
theorem cells_bool : Tryz.prog.cellsOf 4 = 1:=by kernel_rfl
theorem gT (X Y X' Y' : Nat) (f f' : Bool) (op : BinOp) (x y : Operand) (W : World) : (eqGuard op 60 x y (qv X Y f) (qv X' Y' f')).run Tryz.prog W = .ok () W:=by
 unfold qv qc
 cases op <;> simp [eqGuard,go_sem]
section
variable {w0 : World} {Post : Value → World → Prop} {J : World → Prop}
end
def hf (X M : Nat) : Nat:=if X % 2 = 0 then X / 2 else (X + M) / 2
theorem hf_lt {X M : Nat} (h : X < M) : hf X M < M:=by unfold hf; split <;> omega
theorem gcd_even (u v : Nat) (hu : u % 2 = 0) (hv : v % 2 = 1) : Nat.gcd (u / 2) v = Nat.gcd u v:=by
 have hc : Nat.Coprime 2 v:=by
  unfold Nat.Coprime
  rw [Nat.gcd_rec,hv]; rfl
 have e : u = 2 * (u / 2):=by omega
 conv => rhs; rw [e]
 exact (Nat.Coprime.gcd_mul_left_cancel (u / 2) hc).symm
theorem gcd_less (u v : Nat) (h : u ≤ v) : Nat.gcd (v - u) u = Nat.gcd u v:=by
 rw [Nat.gcd_comm u v]
 have e : v = (v - u) + u:=by omega
 conv => rhs; rw [e,Nat.gcd_add_self_left]
theorem cut_twice {M A B : Nat} (hM : M % 2 = 1) (h : 2 * A % M = 2 * B % M) : A % M = B % M:=by
 have hM0 : 0 < M:=by omega
 rw [Nat.mul_mod,← Nat.mul_mod_mod,Nat.mod_mul_mod] at h
 rw [Nat.mul_mod 2 B,← Nat.mul_mod_mod,Nat.mod_mul_mod] at h
 have ha:=Nat.mod_lt A hM0
 have hb:=Nat.mod_lt B hM0
 simp only [Nat.mod_mod] at h
 generalize A % M = a at *
 generalize B % M = b at *
 have e : ∀ c,c < M → 2 * c % M = if 2 * c < M then 2 * c else 2 * c - M:=by
  intro c hc
  split
  ·
   exact Nat.mod_eq_of_lt (by assumption)
  ·
   rw [Nat.mod_eq_sub_mod (by omega),Nat.mod_eq_of_lt (by omega)]
 rw [e a ha,e b hb] at h
 split at h <;> split at h <;> omega
theorem cut_add {M A B C : Nat} (hM0 : 0 < M) (h : (A + C) % M = (B + C) % M) : A % M = B % M:=by
 rw [Nat.add_mod,Nat.add_mod B] at h
 have ha:=Nat.mod_lt A hM0
 have hb:=Nat.mod_lt B hM0
 have hc:=Nat.mod_lt C hM0
 generalize A % M = a at *
 generalize B % M = b at *
 generalize C % M = c at *
 have e : ∀ d,d < M → (d + c) % M = if d + c < M then d + c else d + c - M:=by
  intro d hd
  split
  ·
   exact Nat.mod_eq_of_lt (by assumption)
  ·
   rw [Nat.mod_eq_sub_mod (by omega),Nat.mod_eq_of_lt (by omega)]
 rw [e a ha,e b hb] at h
 split at h <;> split at h <;> omega
structure Inv (a M r u v x y : Nat) : Prop where
 hx : x < M
 hy : y < M
 hu : u < top
 hv : v < top
 odd : v % 2 = 1
 ex : a * x % M = u % M
 ey : a * y % M = v % M
 g : Nat.gcd u v = Nat.gcd a M
 left : ∃ p q,u < 2 ^ p ∧ v < 2 ^ q ∧ r + 2 * (p + q) + u % 2 ≤ 1025
theorem neq4 (f g : Nat → Int) (w : World) : (binOp .neq 58 (.agg #[vI vU (f 0),vI vU (f 1),vI vU (f 2),vI vU (f 3)]) (.agg #[vI vU (g 0),vI vU (g 1),vI vU (g 2),vI vU (g 3)])).run Tryz.prog w = .ok (.bool (!((List.range 4).all fun i => f i == g i))) w:=by
 obtain ⟨i,hi⟩ : ∃ i,Tryz.prog.info? 56 = some i:=Option.isSome_iff_exists.1 (by kernel_rfl)
 have hc : Tryz.prog.cellsOf 56 = 1:=by kernel_rfl
 rw [run_neq_struct,run_equalIn_array (P:=Tryz.prog) w 9999 _ _ Tryz.underlying58 hi,hc]
 rw [run_items 9998 _ _ f g w _ (fun j hj => arr4 (fun j => .int .u64 (f j)) j (by simpa using hj)) (fun j hj => arr4 (fun j => .int .u64 (g j)) j (by simpa using hj))]
 rfl
theorem neq_zero {X : Nat} (hX : X < top) (w : World) : (binOp .neq 58 (.agg #[vI vU (wd X 0),vI vU (wd X 1),vI vU (wd X 2),vI vU (wd X 3)]) (.agg #[vI vU 0,vI vU 0,vI vU 0,vI vU 0])).run Tryz.prog w = .ok (.bool (!decide (X = 0))) w:=by
 have h:=neq4 (wd X) (wd 0) w
 rw [all_wd 4 X 0] at h
 have e : (X % w64 ^ 4 = 0 % w64 ^ 4) = (X = 0):=by rw [Nat.mod_eq_of_lt (show X < w64 ^ 4 from hX),Nat.zero_mod]
 rw [decide_eq_decide.2 (iff_of_eq e)] at h
 have e0 : ∀ i,wd 0 i = 0:=by intro i; unfold wd dg; simp
 simpa [e0] using h
section
variable {w0 : World} {Post : Value → World → Prop} {J : World → Prop}
end
theorem three_lt : 3 < Pt.pp:=by decide +kernel
theorem bb_lt : Pt.bb < Pt.pp:=by decide +kernel
theorem pp_one : 1 < Pt.pp:=by decide +kernel
theorem wd_nil (i : Nat) : wd 0 i = 0:=by unfold wd dg; simp
theorem eql_zero {X : Nat} (hX : X < top) (w : World) : (binOp .eql 58 (.agg #[vI vU (wd X 0),vI vU (wd X 1),vI vU (wd X 2),vI vU (wd X 3)]) (.agg #[vI vU 0,vI vU 0,vI vU 0,vI vU 0])).run Tryz.prog w = .ok (.bool (decide (X = 0))) w:=by
 have h:=eql_num hX (show 0 < top by decide) w
 simp only [wd_nil] at h
 exact h
theorem zet : ((0 : Fin Pt.pp)).val = 0:=Fin.val_zero _
theorem v_one : ((1 : Fin Pt.pp)).val = 1:=Pt.val_one pp_one
theorem v_three : ((3 : Fin Pt.pp)).val = 3:=by
 rw [← Pt.F_three]
 exact Nat.mod_eq_of_lt three_lt
section
variable {x y z : Fin Pt.pp}
end
/-! ### Neg -/
/-! ### On -/
def rightN (X : Nat) : Nat:=((X * X % Pt.pp * X % Pt.pp + Pt.pp - 3 * X % Pt.pp) % Pt.pp + Pt.bb) % Pt.pp
def onB (X Y : Nat) (f : Bool) : Bool:=if f then decide (X = 0) && decide (Y = 0) else decide (X < Pt.pp) && (decide (Y < Pt.pp) && decide (Y * Y % Pt.pp = rightN X))
theorem right_val (x : Fin Pt.pp) : rightN x.val = (x * x * x - 3 * x + Pt.F Pt.bb).val:=by
 unfold rightN
 have e3 : 3 * x.val % Pt.pp = (3 * x).val:=by rw [← Pt.v_mul,v_three]
 have eb : Pt.bb = (Pt.F Pt.bb : Fin Pt.pp).val:=(Nat.mod_eq_of_lt bb_lt).symm
 rw [e3,Pt.v_mul,Pt.v_mul,Pt.v_sub]
 conv => lhs; rw [eb]
 rw [Pt.v_add]
section
variable (X Y : Nat)
end
/-! ### Add -/
section
variable (X Y : Nat)
end
section
variable {x1 y1 x2 y2 m u d t l a b X c e Y : Fin Pt.pp}
end
end Go.Proofs.YtbfkecfcolcclaaGreatDoor
namespace Go.Proofs.YtbfkecfcolcclaaGreatDoor
structure Ky where
 i : Int
 x : Nat
 y : Nat
 f : Bool
 a : Int
 b : Int
def ky0 : Ky:=⟨0,0,0,false,0,0⟩
def okK (l : List Ky) (j : Nat) : Prop :=
 1 ≤ (l.getD j ky0).i ∧ (l.getD j ky0).i ≤ 2147483647 ∧ onB (l.getD j ky0).x (l.getD j ky0).y (l.getD j ky0).f = true ∧ (l.getD j ky0).f = false ∧ 0 ≤ (l.getD j ky0).a ∧ (l.getD j ky0).a ≤ (l.getD j ky0).b ∧ (l.getD j ky0).b ≤ 1073741824 ∧ (0 < j → (l.getD (j - 1) ky0).i < (l.getD j ky0).i)
instance (l : List Ky) (j : Nat) : Decidable (okK l j):=by unfold okK; exact inferInstance
def mayK (l : List Ky) : Bool:=decide (l.length ≤ 32 ∧ ∀ j,j < l.length → okK l j)
theorem mayK_ok {l : List Ky} (h : mayK l = true) {j : Nat} (hj : j < l.length) : okK l j:=(of_decide_eq_true h).2 j hj
theorem mayK_32 {l : List Ky} (h : mayK l = true) : l.length ≤ 32:=(of_decide_eq_true h).1
def cntK (k : Ky) (id at_ : Int) : Bool:=decide (k.i = id) && decide (k.a ≤ at_) && decide (at_ < k.b)
def findK (l : List Ky) (id at_ : Int) : Option Ky:=l.find? fun k => cntK k id at_
theorem findK_none_take {l : List Ky} {id at_ : Int} (h : ∀ j,j < l.length → cntK (l.getD j ky0) id at_ = false) : findK l id at_ = none:=by
 unfold findK
 rw [List.find?_eq_none]
 intro k hk
 obtain ⟨j,hj,rfl⟩:=List.mem_iff_getElem.1 hk
 have:=h j hj
 rw [List.getD_eq_getElem?_getD,List.getElem?_eq_getElem hj] at this
 simpa using this
theorem findK_at {l : List Ky} {id at_ : Int} {j : Nat} (hj : j < l.length) (h : ∀ i,i < j → cntK (l.getD i ky0) id at_ = false) (hc : cntK (l.getD j ky0) id at_ = true) : findK l id at_ = some (l.getD j ky0):=by
 have e : l.getD j ky0 = l[j]:=by rw [List.getD_eq_getElem?_getD,List.getElem?_eq_getElem hj]; rfl
 rw [e] at hc ⊢
 unfold findK
 rw [List.find?_eq_some_iff_getElem]
 refine ⟨hc,j,hj,rfl,fun i hi => ?_⟩
 have:=h i hi
 rw [List.getD_eq_getElem?_getD,List.getElem?_eq_getElem (by omega)] at this
 simpa using this
/-! ### bytes -/
theorem mayK_each {l : List Ky} (h : mayK l = true) : ∀ k ∈ l,1 ≤ k.i ∧ k.i ≤ 2147483647 ∧ onB k.x k.y false = true ∧ k.f = false ∧ 0 ≤ k.a ∧ k.a ≤ k.b ∧ k.b ≤ 1073741824:=by
 intro k hk
 obtain ⟨j,hj,rfl⟩:=List.mem_iff_getElem.1 hk
 obtain ⟨h1,h2,h3,h4,h5,h6,h7,_⟩:=mayK_ok h hj
 have e : l.getD j ky0 = l[j]:=by rw [List.getD_eq_getElem?_getD,List.getElem?_eq_getElem hj]; rfl
 rw [e] at h1 h2 h3 h4 h5 h6 h7
 rw [h4] at h3
 exact ⟨h1,h2,h3,h4,h5,h6,h7⟩
end Go.Proofs.YtbfkecfcolcclaaGreatDoor
