/-
  Of Of Cq Add Sub Cmp.
-/
import Derived.Test.YtmfjigcdhijkjaaDoorRows
import Derived.WalkKit
import Derived.WalkSpells
import Derived.WalkLawsBesides
import Derived.Deep.LoopGhost
import Derived.Deep.RegionWith
import Derived.Deep.QuietTactic
import Derived.BigQuiet
import Derived.BigRegion
import Derived.Test.YtmfjigcdhijkjaaDoorZB1
import Derived.Test.YtmfjigcdhijkjaaDoorZB2
set_option maxRecDepth 1000000
set_option maxHeartbeats 20000000
namespace Go.Proofs.YtmfjigcdhijkjaaDoor
open Go.RowKit
open Go.Act renaming put → aP
open List renaming setIfInBounds_toArray → lA, set_cons_zero → lZ, set_cons_succ → lS
def lev (z : Nat → Nat) : Nat → Nat
 | 0 => 0
 | i + 1 => lev z i + z i * 256 ^ i
theorem zfz {z : Nat → Nat} (hz : ∀ j,z j < 256) : ∀ i,lev z i < 256 ^ i
 | 0 => by simp [lev]
 | i + 1 => by
  have h:=zfz hz i
  have h2 : z i * 256 ^ i ≤ 255 * 256 ^ i:=Nat.mul_le_mul_right _ (by have:=hz i; omega)
  show lev z i + z i * 256 ^ i < _
  rw [Nat.pow_succ]
  omega
theorem dg_put (m q r L c : Nat) (hr : r < m) (hL : L < 256 ^ (m * q + r)) (hc : c < 256) (j : Nat) :
  dg (256 ^ m) (L + c * 256 ^ (m * q + r)) j = if j = q then dg (256 ^ m) L j + c * 256 ^ r else dg (256 ^ m) L j:=by
 have hB : 0 < 256 ^ m:=Nat.pow_pos (by omega)
 have hp : ∀ k,0 < (256 ^ m) ^ k:=fun k => Nat.pow_pos hB
 have e : 256 ^ (m * q + r) = (256 ^ m) ^ q * 256 ^ r:=by rw [Nat.pow_add,Nat.pow_mul]
 have hrm : 256 ^ r * 256 ≤ 256 ^ m:=by rw [← Nat.pow_succ]; exact Nat.pow_le_pow_right (by omega) hr
 rw [e] at hL ⊢
 have hLq : L / (256 ^ m) ^ q < 256 ^ r:=by rw [Nat.div_lt_iff_lt_mul (hp q),Nat.mul_comm]; exact hL
 have hcr : c * 256 ^ r ≤ 255 * 256 ^ r:=Nat.mul_le_mul_right _ (by omega)
 rw [show c * ((256 ^ m) ^ q * 256 ^ r) = (256 ^ m) ^ q * (c * 256 ^ r) by rw [Nat.mul_left_comm]]
 by_cases hj : j = q
 ·
  subst hj
  rw [if_pos rfl]
  unfold dg
  rw [Nat.add_mul_div_left _ _ (hp j),Nat.mod_eq_of_lt (by omega),Nat.mod_eq_of_lt (by omega)]
 ·
  rw [if_neg hj]
  by_cases hlt : j < q
  ·
   rw [← zds _ q j hlt,Nat.add_mul_mod_self_left,zds _ q j hlt]
  ·
   have hjq : q + 1 ≤ j:=by omega
   have hle : (256 ^ m) ^ (q + 1) ≤ (256 ^ m) ^ j:=Nat.pow_le_pow_right hB hjq
   rw [Nat.pow_succ] at hle
   have h1 : (256 ^ m) ^ q * (256 ^ r + c * 256 ^ r) ≤ (256 ^ m) ^ q * 256 ^ m:=Nat.mul_le_mul_left _ (by omega)
   rw [Nat.mul_add] at h1
   unfold dg
   rw [Nat.div_eq_of_lt (show L < _ by omega),Nat.div_eq_of_lt (show L + (256 ^ m) ^ q * (c * 256 ^ r) < _ by omega)]
theorem w64_bytes : w64 = 256 ^ 8:=by decide
theorem w16_bytes : w16 = 256 ^ 2:=by decide
theorem two_256 (r : Nat) : 2 ^ (r * 8) = 256 ^ r:=by rw [Nat.mul_comm,Nat.pow_mul]
theorem wd_put (L c k j : Nat) (hL : L < 256 ^ k) (hc : c < 256) : wd (L + c * 256 ^ k) j = if j = k / 8 then wd L j + (c * 256 ^ (k % 8) : Nat) else wd L j:=by
 have h:=dg_put 8 (k / 8) (k % 8) L c (Nat.mod_lt _ (by omega)) (by rw [Nat.div_add_mod]; exact hL) hc j
 rw [Nat.div_add_mod,← w64_bytes] at h
 unfold wd
 rw [h]
 split
 ·
  rw [Int.natCast_add]
 ·
  rfl
theorem of_word (L c k : Nat) (hL : L < 256 ^ k) (hc : c < 256) : bits .or .u64 (wd L (k / 8)) (IntKind.u64.wrap ((c : Int) * 2 ^ (k % 8 * 8))) = wd (L + c * 256 ^ k) (k / 8):=by
 have hr : k % 8 < 8:=Nat.mod_lt _ (by omega)
 have hp : 256 ^ (k % 8) ≤ 256 ^ 7:=Nat.pow_le_pow_right (by omega) (by omega)
 have h7 : (256 : Nat) ^ 7 = 72057594037927936:=by decide
 have hcr : c * 256 ^ (k % 8) ≤ 255 * 256 ^ (k % 8):=Nat.mul_le_mul_right _ (by omega)
 have hq : dg w64 L (k / 8) < 256 ^ (k % 8):=by
  have e : 256 ^ k = w64 ^ (k / 8) * 256 ^ (k % 8):=by
   rw [w64_bytes,← Nat.pow_mul,← Nat.pow_add,Nat.div_add_mod]
  unfold dg
  refine Nat.lt_of_le_of_lt (Nat.mod_le _ _) ?_
  rw [Nat.div_lt_iff_lt_mul (Nat.pow_pos zbi),Nat.mul_comm,← e]
  exact hL
 have ec : (c : Int) * 2 ^ (k % 8 * 8) = ((c * 256 ^ (k % 8) : Nat) : Int):=by
  rw [← two_256,Int.natCast_mul,Int.natCast_pow]
  rfl
 rw [wd_put L c k _ hL hc,if_pos rfl,ec,IntKind.wrap_u64]
 unfold wd
 rw [show ((c * 256 ^ (k % 8) : Nat) : Int) % 18446744073709551616 = ((c * 256 ^ (k % 8) : Nat) : Int) by omega]
 rw [u64_or_nat _ _ (by omega) (by omega),Nat.or_comm,nat_join (8 * (k % 8)) _ _ (by rw [Nat.mul_comm 8,two_256]; exact Nat.mul_mod_left _ _) (by rw [Nat.mul_comm 8,two_256]; exact hq)]
 omega
theorem of_step (z : Nat → Nat) (k : Nat) (hz : ∀ j,z j < 256) (i : Nat) :
  (if i = k / 8 then Value.int .u64 (wd (lev z k + z k * 256 ^ k) (k / 8)) else Value.int .u64 (wd (lev z k) i)) = Value.int .u64 (wd (lev z (k + 1)) i):=by
 show _ = Value.int .u64 (wd (lev z k + z k * 256 ^ k) i)
 by_cases h : i = k / 8
 ·
  rw [if_pos h,h]
 ·
  rw [if_neg h,wd_put _ _ _ _ (zfz hz k) (hz k),if_neg h]
theorem zeg (i : Nat) : wd 0 i = 0:=by unfold wd dg; simp
theorem zhb (b o n c : Nat) (y : Nat → Nat) (hy : ∀ j,y j < 256) (hn : n ≤ 32) (w : World) (hb : b < w.heap.size) (hcell : ∀ j,j < n → w.cell? ⟨b,o + j,none⟩ = some (.int .u8 (y j))) :
  Calls Tryd.prog 21 #[.slice (some ⟨b,o,none⟩) n c] w fun e w' => e = .returned (.tuple #[.agg #[.int .u64 (wd (lev (fun k => y (n - 1 - k)) n) 0),.int .u64 (wd (lev (fun k => y (n - 1 - k)) n) 1),.int .u64 (wd (lev (fun k => y (n - 1 - k)) n) 2),.int .u64 (wd (lev (fun k => y (n - 1 - k)) n) 3)],.nilIface]) ∧ Below w.heap.size w w':=by
 have HY:=veil hy
 have HC:=veil hcell
 clear hy hcell
 have hn' : (n : Int) ≤ 32:=by omega
 go_enter Tryd.func21,Tryd.ntmps21
 go_wp2
 go_loopw [13] (fun i wr => ∃ k : Nat,k ≤ n ∧ i = .int .i64 k ∧ wr.rowIs w.heap.size 24 4 (fun _ => .int .u64 0) ∧ wr.rowIs (w.heap.size + 1) 24 4 (fun j => .int .u64 (wd (lev (fun k => y (n - 1 - k)) k) j)) ∧ Below w.heap.size w wr)
  (fun i _ => n - (intOf i).toNat)
 case atStart => exact ⟨0,by omega,rfl,(zap (n:=4) rfl rfl (arr4 fun _ => .int .u64 0)).alloc _,(zap (n:=4) (f:=fun _ => .int .u64 0) (by simp) rfl (arr4 fun _ => .int .u64 0)).congr (fun i _ => by rw [lev,zeg]),((Below.refl _ _).alloc (by simp) _).alloc (by simp) _⟩
 case round =>
  obtain ⟨k,hk,rfl,hR,hS,hbel⟩:=hrel
  by_cases hlt : k < n
  ·
   have hk8 : k / 8 < 4:=by omega
   have c1:=hS.cell hk8
   have f1:=hS.frozen (k / 8)
   obtain ⟨j,hj⟩ : ∃ j,j = n - 1 - k:=⟨_,rfl⟩
   have hji : (n : Int) - 1 - (k : Int) = (j : Int):=by omega
   have hjn : (j : Int) < (n : Int):=by omega
   have hkn : (k : Int) < (n : Int):=by omega
   have c2:=(hbel.cell (p:=⟨b,o + j,none⟩) hb).trans (HC.out j (by omega))
   have l1:=wd_lo (lev (fun k => y (n - 1 - k)) k) (k / 8)
   have u1:=wd_le (lev (fun k => y (n - 1 - k)) k) (k / 8)
   have u2 : (y j : Int) ≤ 255:=by have:=HY.out j; omega
   have hst:=of_step (fun k => y (n - 1 - k)) k (fun j => HY.out _)
   have HS:=veil hst
   clear hst
   have HJ:=veil hj
   clear hj
   go_wp2
   go_region
   all_goals
    go_wp2
    go_roundw
    case rel =>
     rw [show y j = y (n - 1 - k) by rw [HJ.out],of_word _ _ _ (zfz (fun j => HY.out _) k) (HY.out _)]
     exact ⟨k + 1,by omega,by go_num,(zbh hR (by omega) _).drew,((hS.set (k / 8) _).congr fun i _ => HS.out i).drew,(zax hbel (by omega) _).drew⟩
    case measure => simp [intOf]; omega
  ·
   obtain rfl : k = n:=by omega
   obtain ⟨c0,c1,c2,c3⟩:=zan hS
   obtain ⟨d0,d1,d2,d3⟩:=zan hR
   obtain ⟨f0,f1,f2,f3⟩:=zay hR
   go_wp2
   refine bodyPost_ret (zcf rfl _ _ w.heap.size 24 #[.int .u64 (wd (lev (fun j => y (k - 1 - j)) k) 0),.int .u64 (wd (lev (fun j => y (k - 1 - j)) k) 1),.int .u64 (wd (lev (fun j => y (k - 1 - j)) k) 2),.int .u64 (wd (lev (fun j => y (k - 1 - j)) k) 3)] (0,0) 4 22 rfl (blk4 (put4 hR fun j => .int .u64 (wd (lev (fun j => y (k - 1 - j)) k) j))) Tryd.underlying24 (by kernel_rfl)) rfl ⟨rfl,zat hbel (Nat.le_refl _) _ _ _ _⟩
def qc (x y : Nat) (f : Bool) : Array Value:=#[.int .u64 (wd x 0),.int .u64 (wd x 1),.int .u64 (wd x 2),.int .u64 (wd x 3),.int .u64 (wd y 0),.int .u64 (wd y 1),.int .u64 (wd y 2),.int .u64 (wd y 3),.bool (f)]
def qv (x y : Nat) (f : Bool) : Value:=.agg (qc x y f)
theorem zdd (x y : Nat) (f : Bool) : (qc x y f).all (·.oneCell') = true:=by simp [qc,Value.oneCell']
theorem iT (x y : Nat) (f : Bool) : (Tryd.prog.info? 40).map (·.size) = some (qc x y f).size:=by kernel_rfl
theorem zbr (W : World) : (isAgg 4).run Tryd.prog W = .ok false W:=by simp [isAgg,go_sem]
section
variable (g : Nat) (W : World)
theorem fldT0 : (Instr.fieldAt 40 (ptrTo g) 0).run Tryd.prog W = .ok (.pointer (some ⟨g,0,none⟩)) W:=by simp [Instr.fieldAt,go_sem]
theorem fldT1 : (Instr.fieldAt 40 (ptrTo g) 1).run Tryd.prog W = .ok (.pointer (some ⟨g,4,none⟩)) W:=by simp [Instr.fieldAt,go_sem]
theorem fldT2 : (Instr.fieldAt 40 (ptrTo g) 2).run Tryd.prog W = .ok (.pointer (some ⟨g,8,none⟩)) W:=by simp [Instr.fieldAt,go_sem]
theorem hzT : (Instr.alloc 40 true (.tuple #[])).run Tryd.prog W = .ok (ptrTo W.heap.size) (W.alloc (.cells #[.int .u64 0,.int .u64 0,.int .u64 0,.int .u64 0,.int .u64 0,.int .u64 0,.int .u64 0,.int .u64 0,.bool false] 40)):=by simp [Instr.alloc,go_sem]
theorem bldT (x y : Nat) : (Instr.build 40 [(0,nv x),(1,nv y)].toArray).run Tryd.prog W = .ok (qv x y false) W:=by simp [Instr.build,go_sem,nv,nc,qv,qc]
theorem bldT0 : (Instr.build 40 [].toArray).run Tryd.prog W = .ok (qv 0 0 false) W:=by
 obtain ⟨h0,h1,h2,h3⟩:=wd_z
 unfold qv qc
 rw [h0,h1,h2,h3]
 simp [Instr.build,go_sem]
theorem bldTF : (Instr.build 40 [(2,.bool true)].toArray).run Tryd.prog W = .ok (qv 0 0 true) W:=by
 obtain ⟨h0,h1,h2,h3⟩:=wd_z
 unfold qv qc
 rw [h0,h1,h2,h3]
 simp [Instr.build,go_sem]
end
theorem add64 (x y c : Int) (hx : 0 ≤ x) (hy : 0 ≤ y) (hc0 : 0 ≤ c) (hc : c ≤ 1) (w : World) :
  (callFunc 96 #[.int .u64 x,.int .u64 y,.int .u64 c]).run Tryd.prog w = .ok (.value (.tuple #[.int .u64 ((x + y + c) % 18446744073709551616),.int .u64 ((x + y + c) / 18446744073709551616)])) w:=by
 rw [run_callFunc_extern Tryd.func96 (by kernel_rfl) (by kernel_rfl) (by kernel_rfl) (e:=add64Entry) (by kernel_rfl),run_add64 x y c hx hy hc0 hc]
 rfl
def cyI (X Y i : Nat) : Int:=(cy w64 X Y i : Nat)
theorem add64_at (X Y k : Nat) (w : World) :
  (callFunc 96 #[.int .u64 (wd X k),.int .u64 (wd Y k),.int .u64 (cyI X Y k)]).run Tryd.prog w = .ok (.value (.tuple #[.int .u64 (wd (X + Y) k),.int .u64 (cyI X Y (k + 1))])) w:=by
 have hc:=cy_le zbi X Y k
 rw [add64 _ _ _ (wd_lo _ _) (wd_lo _ _) (by unfold cyI; omega) (by unfold cyI; omega)]
 unfold wd cyI
 rw [cy_succ zbi,dg_add zbi]
 unfold w64
 simp
theorem cyI_top {X Y : Nat} (hX : X < top) (hY : Y < top) : (cyI X Y 4 != 0) = decide (top ≤ X + Y):=by
 unfold cyI
 rw [cy_top (n:=4) hX hY]
 show _ = decide (w64 ^ 4 ≤ X + Y)
 by_cases h : w64 ^ 4 ≤ X + Y <;> simp [h]
theorem add_any (X Y : Nat) (hX : X < top) (hY : Y < top) (w : World) :
  Calls Tryd.prog 84 #[.agg #[.int .u64 (wd X 0),.int .u64 (wd X 1),.int .u64 (wd X 2),.int .u64 (wd X 3)],.agg #[.int .u64 (wd Y 0),.int .u64 (wd Y 1),.int .u64 (wd Y 2),.int .u64 (wd Y 3)]] w fun e w' =>
   e = .returned (.tuple #[.agg #[.int .u64 (wd (X + Y) 0),.int .u64 (wd (X + Y) 1),.int .u64 (wd (X + Y) 2),.int .u64 (wd (X + Y) 3)],.bool (decide (top ≤ X + Y))]) ∧ Below w.heap.size w w':=by
 have h29:=fun (k : Nat) (W : World) => add64_at X Y k W
 go_enter Tryd.func84,Tryd.ntmps84
 go_wp2
 go_loopw [7,9] (fun c i wr => ∃ k : Nat,k ≤ 4 ∧ i = .int .i64 k ∧ c = .int .u64 (cyI X Y k) ∧ wr.rowIs w.heap.size 24 4 (fun j => .int .u64 (wd X j))
   ∧ wr.rowIs (w.heap.size + 1) 24 4 (fun j => .int .u64 (wd Y j)) ∧ wr.rowIs (w.heap.size + 1 + 1) 24 4 (fun _ => .int .u64 0)
   ∧ wr.rowIs (w.heap.size + 1 + 1 + 1) 24 4 (fun j => .int .u64 (if j < k then wd (X + Y) j else 0)) ∧ Below w.heap.size w wr)
  (fun _ i _ => 4 - (intOf i).toNat)
 case atStart => exact ⟨0,by omega,rfl,by simp [cyI,cy_zero],(((zap (n:=4) (by simp) rfl (arr4 fun j => .int .u64 (wd X j))).alloc _).alloc _).alloc _,((zap (n:=4) (by simp) rfl (arr4 fun j => .int .u64 (wd Y j))).alloc _).alloc _,(zap (n:=4) (by simp) rfl (arr4 fun _ => .int .u64 0)).alloc _,zap (n:=4) (by simp) rfl (arr4 fun _ => .int .u64 0),((((Below.refl _ _).alloc (by simp) _).alloc (by simp) _).alloc (by simp; omega) _).alloc (by simp; omega) _⟩
 case round =>
  obtain ⟨k,hk,rfl,rfl,hRX,hRY,hRZ,hRS,hbel⟩:=hrel
  by_cases hlt : k < 4
  ·
   have c1:=hRX.cell hlt
   have c2:=hRY.cell hlt
   have c3:=hRS.cell hlt
   have f3:=hRS.frozen k
   go_wp2
   go_region_with (fail)
   all_goals
    go_wp2
    go_roundw
    case rel => exact ⟨k + 1,by omega,by go_num,rfl,(zbh hRX (by omega) _).drew,(zbh hRY (by omega) _).drew,(zbh hRZ (by omega) _).drew,((hRS.set k _).congr (row_step hlt)).drew,(zax hbel (by omega) _).drew⟩
    case measure => simp [intOf]; omega
  ·
   obtain rfl : k = 4:=by omega
   obtain ⟨c0,c1,c2,c3⟩:=zan hRS
   obtain ⟨d0,d1,d2,d3⟩:=zan hRZ
   obtain ⟨f0,f1,f2,f3⟩:=zay hRZ
   simp only [show (0 : Nat) < 4 from by omega,show (1 : Nat) < 4 from by omega,show (2 : Nat) < 4 from by omega,show (3 : Nat) < 4 from by omega,if_true] at c0 c1 c2 c3
   clear hRX hRY hRS
   have hz:=cyI_top hX hY
   go_wp2
   refine bodyPost_ret (zcf rfl _ _ (w.heap.size + 1 + 1) 24 #[.int .u64 (wd (X + Y) 0),.int .u64 (wd (X + Y) 1),.int .u64 (wd (X + Y) 2),.int .u64 (wd (X + Y) 3)] (0,0) 4 22 rfl (blk4 (put4 hRZ fun j => .int .u64 (wd (X + Y) j))) Tryd.underlying24 (by kernel_rfl)) rfl ⟨?_,zat hbel (by omega) _ _ _ _⟩
   rfl
theorem add_calls (X Y : Nat) (hX : X < top) (hY : Y < top) (w : World) :
  Calls Tryd.prog 84 #[.agg #[.int .u64 (wd X 0),.int .u64 (wd X 1),.int .u64 (wd X 2),.int .u64 (wd X 3)],.agg #[.int .u64 (wd Y 0),.int .u64 (wd Y 1),.int .u64 (wd Y 2),.int .u64 (wd Y 3)]] w fun e w' => e = .returned (.tuple #[.agg #[.int .u64 (wd ((X + Y) % top) 0),.int .u64 (wd ((X + Y) % top) 1),.int .u64 (wd ((X + Y) % top) 2),.int .u64 (wd ((X + Y) % top) 3)],.bool (decide (top ≤ X + Y))]) ∧ Below w.heap.size w w':=by
 rw [zee _ 0 (by omega),zee _ 1 (by omega),zee _ 2 (by omega),zee _ 3 (by omega)]
 exact add_any X Y hX hY w
def sub64Entry : Array Value → Sem Value:=fun args => do
 let (x,y,b) ← Extern.MathBitsCarry.three "Sub64" args
 pure (Extern.MathBitsCarry.pair ((x + Extern.MathBitsCarry.m64 - y - b) % Extern.MathBitsCarry.m64) (if x < y + b then 1 else 0))
theorem run_sub64 (x y b : Nat) (hb : b ≤ 1) (w : World) :
  (sub64Entry #[.int .u64 (x : Int),.int .u64 (y : Int),.int .u64 (b : Int)]).run Tryd.prog w =
   .ok (.tuple #[.int .u64 (((x + w64 - y - b) % w64 : Nat) : Int),.int .u64 ((if x < y + b then 1 else 0 : Nat) : Int)]) w:=by
 have : b = 0 ∨ b = 1:=by omega
 rcases this with rfl | rfl <;> rfl
theorem sub64 (x y b : Nat) (hb : b ≤ 1) (w : World) :
  (callFunc 85 #[.int .u64 (x : Int),.int .u64 (y : Int),.int .u64 (b : Int)]).run Tryd.prog w = .ok (.value (.tuple #[.int .u64 (((x + w64 - y - b) % w64 : Nat) : Int),.int .u64 ((if x < y + b then 1 else 0 : Nat) : Int)])) w:=by
 rw [run_callFunc_extern Tryd.func85 (by kernel_rfl) (by kernel_rfl) (by kernel_rfl) (e:=sub64Entry) (by kernel_rfl),run_sub64 x y b hb]
 rfl
def bwI (X Y i : Nat) : Int:=(bw w64 X Y i : Nat)
theorem sub64_at (X Y k : Nat) (hk : k < 4) (hY : Y ≤ top) (w : World) :
  (callFunc 85 #[.int .u64 (wd X k),.int .u64 (wd Y k),.int .u64 (bwI X Y k)]).run Tryd.prog w = .ok (.value (.tuple #[.int .u64 (wd (X + top - Y) k),.int .u64 (bwI X Y (k + 1))])) w:=by
 unfold wd bwI
 rw [sub64 _ _ _ (bw_le w64 X Y k)]
 unfold top at hY ⊢
 rw [bw_succ zbi,dg_sub zbi X Y 4 k hk hY]
theorem bwI_top {X Y : Nat} (hX : X < top) (hY : Y < top) : (bwI X Y 4 != 0) = decide (X < Y):=by
 unfold bwI
 rw [bw_top (n:=4) hX hY]
 by_cases h : X < Y <;> simp [h]
theorem sub_any (X Y : Nat) (hX : X < top) (hY : Y < top) (w : World) :
  Calls Tryd.prog 62 #[.agg #[.int .u64 (wd X 0),.int .u64 (wd X 1),.int .u64 (wd X 2),.int .u64 (wd X 3)],.agg #[.int .u64 (wd Y 0),.int .u64 (wd Y 1),.int .u64 (wd Y 2),.int .u64 (wd Y 3)]] w fun e w' =>
   e = .returned (.tuple #[.agg #[.int .u64 (wd (X + top - Y) 0),.int .u64 (wd (X + top - Y) 1),.int .u64 (wd (X + top - Y) 2),.int .u64 (wd (X + top - Y) 3)],.bool (decide (X < Y))]) ∧ Below w.heap.size w w':=by
 go_enter Tryd.func62,Tryd.ntmps62
 go_wp2
 go_loopw [7,9] (fun c i wr => ∃ k : Nat,k ≤ 4 ∧ i = .int .i64 k ∧ c = .int .u64 (bwI X Y k) ∧ wr.rowIs w.heap.size 24 4 (fun j => .int .u64 (wd X j))
   ∧ wr.rowIs (w.heap.size + 1) 24 4 (fun j => .int .u64 (wd Y j)) ∧ wr.rowIs (w.heap.size + 1 + 1) 24 4 (fun _ => .int .u64 0)
   ∧ wr.rowIs (w.heap.size + 1 + 1 + 1) 24 4 (fun j => .int .u64 (if j < k then wd (X + top - Y) j else 0)) ∧ Below w.heap.size w wr)
  (fun _ i _ => 4 - (intOf i).toNat)
 case atStart => exact ⟨0,by omega,rfl,by simp [bwI,bw_zero],(((zap (n:=4) (by simp) rfl (arr4 fun j => .int .u64 (wd X j))).alloc _).alloc _).alloc _,((zap (n:=4) (by simp) rfl (arr4 fun j => .int .u64 (wd Y j))).alloc _).alloc _,(zap (n:=4) (by simp) rfl (arr4 fun _ => .int .u64 0)).alloc _,zap (n:=4) (by simp) rfl (arr4 fun _ => .int .u64 0),((((Below.refl _ _).alloc (by simp) _).alloc (by simp) _).alloc (by simp; omega) _).alloc (by simp; omega) _⟩
 case round =>
  obtain ⟨k,hk,rfl,rfl,hRX,hRY,hRZ,hRS,hbel⟩:=hrel
  by_cases hlt : k < 4
  ·
   have c1:=hRX.cell hlt
   have c2:=hRY.cell hlt
   have c3:=hRS.cell hlt
   have f3:=hRS.frozen k
   have h30:=fun (W : World) => sub64_at X Y k hlt (Nat.le_of_lt hY) W
   go_wp2
   go_region_with (fail)
   all_goals
    go_wp2
    go_roundw
    case rel => exact ⟨k + 1,by omega,by go_num,rfl,(zbh hRX (by omega) _).drew,(zbh hRY (by omega) _).drew,(zbh hRZ (by omega) _).drew,((hRS.set k _).congr (row_step hlt)).drew,(zax hbel (by omega) _).drew⟩
    case measure => simp [intOf]; omega
  ·
   obtain rfl : k = 4:=by omega
   obtain ⟨c0,c1,c2,c3⟩:=zan hRS
   obtain ⟨d0,d1,d2,d3⟩:=zan hRZ
   obtain ⟨f0,f1,f2,f3⟩:=zay hRZ
   simp only [show (0 : Nat) < 4 from by omega,show (1 : Nat) < 4 from by omega,show (2 : Nat) < 4 from by omega,show (3 : Nat) < 4 from by omega,if_true] at c0 c1 c2 c3
   clear hRX hRY hRS
   have hz:=bwI_top hX hY
   go_wp2
   refine bodyPost_ret (zcf rfl _ _ (w.heap.size + 1 + 1) 24 #[.int .u64 (wd (X + top - Y) 0),.int .u64 (wd (X + top - Y) 1),.int .u64 (wd (X + top - Y) 2),.int .u64 (wd (X + top - Y) 3)] (0,0) 4 22 rfl (blk4 (put4 hRZ fun j => .int .u64 (wd (X + top - Y) j))) Tryd.underlying24 (by kernel_rfl)) rfl ⟨?_,zat hbel (by omega) _ _ _ _⟩
   rfl
theorem sub_calls (X Y : Nat) (hX : X < top) (hY : Y < top) (w : World) :
  Calls Tryd.prog 62 #[.agg #[.int .u64 (wd X 0),.int .u64 (wd X 1),.int .u64 (wd X 2),.int .u64 (wd X 3)],.agg #[.int .u64 (wd Y 0),.int .u64 (wd Y 1),.int .u64 (wd Y 2),.int .u64 (wd Y 3)]] w fun e w' => e = .returned (.tuple #[.agg #[.int .u64 (wd ((X + top - Y) % top) 0),.int .u64 (wd ((X + top - Y) % top) 1),.int .u64 (wd ((X + top - Y) % top) 2),.int .u64 (wd ((X + top - Y) % top) 3)],.bool (decide (X < Y))]) ∧ Below w.heap.size w w':=by
 rw [zee _ 0 (by omega),zee _ 1 (by omega),zee _ 2 (by omega),zee _ 3 (by omega)]
 exact sub_any X Y hX hY w
def cmpN (X Y : Nat) : Int:=if X < Y then -1 else if Y < X then 1 else 0
theorem zhj (B X Y k : Nat) (hB : 0 < B) : cmpN (X % B ^ (k + 1)) (Y % B ^ (k + 1)) = if dg B X k < dg B Y k then -1 else if dg B Y k < dg B X k then 1 else cmpN (X % B ^ k) (Y % B ^ k):=by
 have hp : 0 < B ^ k:=Nat.pow_pos hB
 have h1:=Nat.mod_lt X hp
 have h2:=Nat.mod_lt Y hp
 unfold cmpN
 rw [zcv,zcv]
 generalize dg B X k = x
 generalize dg B Y k = y
 generalize X % B ^ k = r at *
 generalize Y % B ^ k = s at *
 generalize B ^ k = P at *
 by_cases hxy : x < y
 ·
  have : P * x + P ≤ P * y:=by rw [← Nat.mul_succ]; exact Nat.mul_le_mul_left _ hxy
  rw [if_pos (by omega),if_pos hxy]
 ·
  by_cases hyx : y < x
  ·
   have : P * y + P ≤ P * x:=by rw [← Nat.mul_succ]; exact Nat.mul_le_mul_left _ hyx
   rw [if_neg (by omega),if_pos (by omega),if_neg hxy,if_pos hyx]
  ·
   have hxy' : x = y:=by omega
   subst hxy'
   simp
theorem cmp_high (B X Y n m : Nat) (hB : 0 < B) (hX : X < B ^ n) (hY : Y < B ^ n) (hm : m < n) (h : ∀ j,m < j → j < n → dg B X j = dg B Y j) (hne : dg B X m ≠ dg B Y m) :
  cmpN X Y = if dg B X m < dg B Y m then -1 else 1:=by
 have e : X / B ^ (m + 1) = Y / B ^ (m + 1):=by
  have hn : B ^ n = B ^ (m + 1) * B ^ (n - (m + 1)):=by rw [← Nat.pow_add]; congr 1; omega
  refine eq_of_dg_lt hB (n:=n - (m + 1)) ?_ ?_ fun i hi => ?_
  ·
   rw [Nat.div_lt_iff_lt_mul (Nat.pow_pos hB),Nat.mul_comm,← hn]; exact hX
  ·
   rw [Nat.div_lt_iff_lt_mul (Nat.pow_pos hB),Nat.mul_comm,← hn]; exact hY
  ·
   have:=h (m + 1 + i) (by omega) (by omega)
   unfold dg at *
   rwa [Nat.div_div_eq_div_mul,Nat.div_div_eq_div_mul,← Nat.pow_add]
 have c : cmpN X Y = cmpN (X % B ^ (m + 1)) (Y % B ^ (m + 1)):=by
  have hx:=Nat.mod_add_div X (B ^ (m + 1))
  have hy:=Nat.mod_add_div Y (B ^ (m + 1))
  rw [e] at hx
  unfold cmpN
  generalize B ^ (m + 1) * (Y / B ^ (m + 1)) = q at *
  generalize X % B ^ (m + 1) = r at *
  generalize Y % B ^ (m + 1) = s at *
  subst hx; subst hy
  simp
 rw [c,zhj B X Y m hB]
 by_cases hlt : dg B X m < dg B Y m
 ·
  rw [if_pos hlt,if_pos hlt]
 ·
  rw [if_neg hlt,if_neg hlt,if_pos (by omega)]
theorem compare_lt (x y : Int) (h : x < y) (w : World) : Calls Tryd.prog 76 #[.int .u64 x,.int .u64 y] w fun e w' => e = .returned (.int .i64 (-1)) ∧ w' = w:=by
 go_enter Tryd.func76,Tryd.ntmps76
 go_wp2
 go_ret
 exact ⟨rfl,rfl⟩
theorem compare_gt (x y : Int) (h : y < x) (w : World) : Calls Tryd.prog 76 #[.int .u64 x,.int .u64 y] w fun e w' => e = .returned (.int .i64 1) ∧ w' = w:=by
 go_enter Tryd.func76,Tryd.ntmps76
 go_wp2
 go_ret
 exact ⟨rfl,rfl⟩
theorem wd_cmp {X Y k : Nat} (h : dg w64 X k < dg w64 Y k) : wd X k < wd Y k:=by unfold wd; omega
theorem zff (X Y : Nat) (hX : X < top) (hY : Y < top) (w : World) :
  Calls Tryd.prog 47 #[.agg #[.int .u64 (wd X 0),.int .u64 (wd X 1),.int .u64 (wd X 2),.int .u64 (wd X 3)],.agg #[.int .u64 (wd Y 0),.int .u64 (wd Y 1),.int .u64 (wd Y 2),.int .u64 (wd Y 3)]] w fun e w' => e = .returned (.int .i64 (cmpN X Y)) ∧ Below w.heap.size w w':=by
 go_enter Tryd.func47,Tryd.ntmps47
 go_wp2
 go_loopw [5] (fun i wr => ∃ k : Nat,k ≤ 4 ∧ i = .int .i64 ((k : Int) - 1) ∧ (∀ j,k ≤ j → j < 4 → dg w64 X j = dg w64 Y j) ∧ wr.rowIs w.heap.size 24 4 (fun j => .int .u64 (wd X j))
   ∧ wr.rowIs (w.heap.size + 1) 24 4 (fun j => .int .u64 (wd Y j)) ∧ Below w.heap.size w wr)
  (fun i _ => (intOf i + 1).toNat)
 case atStart => exact ⟨4,by omega,rfl,by intro j h1 h2; omega,(zap (n:=4) (by simp) rfl (arr4 fun j => .int .u64 (wd X j))).alloc _,zap (n:=4) (by simp) rfl (arr4 fun j => .int .u64 (wd Y j)),((Below.refl _ _).alloc (by simp) _).alloc (by simp) _⟩
 case round =>
  obtain ⟨k,hk,hi,hall,hRX,hRY,hbel⟩:=hrel
  have HALL:=veil hall
  clear hall
  cases k with
  | zero =>
   subst hi
   have hXY : X = Y:=eq_of_dg_lt zbi hX hY fun j hj => HALL.out j (Nat.zero_le _) hj
   go_wp2
   go_ret
   have hc : cmpN X Y = 0:=by unfold cmpN; rw [if_neg (by omega),if_neg (by omega)]
   rw [hc]
   exact ⟨rfl,hbel⟩
  | succ m =>
   obtain rfl : _ = Value.int .i64 (m : Int):=hi.trans (by congr 1; omega)
   have hm : m < 4:=by omega
   go_wp2
   have c1:=hRX.cell hm
   have c2:=hRY.cell hm
   rcases Nat.lt_trichotomy (dg w64 X m) (dg w64 Y m) with h | h | h
   ·
    have hlt:=wd_cmp h
    have hne : (wd X m != wd Y m) = true:=by rw [bne_iff_ne]; omega
    have hc : cmpN X Y = -1:=by rw [cmp_high w64 X Y 4 m zbi hX hY hm (fun j h1 h2 => HALL.out j (by omega) h2) (by omega),if_pos h]
    have HC:=veil hc
    clear hc
    go_quiet (fail)
    go_wp2
    go_quiet ((go_at_call 76; exact quiet_more (compare_lt _ _ hlt _)))
    go_wp2
    go_ret
    rw [HC.out]
    exact ⟨rfl,zbt (zbt hbel _) _⟩
   ·
    have hne : (wd X m != wd Y m) = false:=by unfold wd; rw [h]; simp
    go_quiet (fail)
    go_wp2
    go_roundw
    case rel => exact ⟨m,by omega,by go_num,fun j h1 h2 => by
     by_cases e : j = m
     ·
      rw [e]; exact h
     ·
      exact HALL.out j (by omega) h2,zcq hRX _,zcq hRY _,zbt hbel _⟩
    case measure => simp [intOf]
   ·
    have hlt:=wd_cmp h
    have hne : (wd X m != wd Y m) = true:=by rw [bne_iff_ne]; omega
    have hc : cmpN X Y = 1:=by rw [cmp_high w64 X Y 4 m zbi hX hY hm (fun j h1 h2 => HALL.out j (by omega) h2) (by omega),if_neg (by omega)]
    have HC:=veil hc
    clear hc
    go_quiet (fail)
    go_wp2
    go_quiet ((go_at_call 76; exact quiet_more (compare_gt _ _ hlt _)))
    go_wp2
    go_ret
    rw [HC.out]
    exact ⟨rfl,zbt (zbt hbel _) _⟩
end Go.Proofs.YtmfjigcdhijkjaaDoor
