/-
  Of C0 Of Cq Au4 Add Sub Cmp G1 G2 G3 G4 G5a G5.
-/
import Derived.Test.YtbfkecfcolcclaaGreatDoorRows
import Derived.WalkKit
import Derived.WalkSpells
import Derived.WalkLawsBesides
import Derived.Deep.LoopGhost
import Derived.Deep.RegionWith
import Derived.Deep.QuietTactic
import Derived.BigQuiet
import Derived.BigRegion
import Derived.Deep.CutRange
import Derived.Deep.RegionHeld3
import Derived.Test.YtbfkecfcolcclaaGreatDoorZB2
import Derived.Test.YtbfkecfcolcclaaGreatDoorZB1
set_option maxRecDepth 1000000
set_option maxHeartbeats 20000000
namespace Go.Proofs.YtbfkecfcolcclaaGreatDoor
open Go.RowKit
open Go.Value renaming int → vI
open Go.IntKind renaming u64 → vU
open Go.Act renaming put → aP
open List renaming setIfInBounds_toArray → lA, set_cons_zero → lZ, set_cons_succ → lS
theorem infoN4 : (Tryz.prog.info? 58).map (·.size) = some 4:=by kernel_rfl
def nc (x : Nat) : Array Value:=#[vI vU (wd x 0),vI vU (wd x 1),vI vU (wd x 2),vI vU (wd x 3)]
def nv (x : Nat) : Value:=.agg (nc x)
theorem nc_one (x : Nat) : (nc x).all (·.oneCell') = true:=by simp [nc,Value.oneCell']
theorem iN (x : Nat) : (Tryz.prog.info? 58).map (·.size) = some (nc x).size:=by exact infoN4
theorem uN : Tryz.prog.underlying 58 = some (.array 4 56):=Tryz.underlying58
section
variable {P : Program} {o : Oper} {a : Act} {w : World}
theorem zai {f : FuncId} {fn : Func} {c : Code} (hf : P.funcs[f]? = some fn) (hname : (fn.name == "runtime.NumGoroutine") = false) (hb : fn.body = some c) (args : Array Value) (w : World) :
  (callFunc f args).run P w = .ok (.enter f args) w:=by
 have hn : ¬ fn.name = "runtime.NumGoroutine":=by simpa using hname
 simp [callFunc,go_sem,hf,hb,hn]
theorem zbc {k : FuncId} {xs : List Operand} {ts : Array TypeId} {args : List Value} {v : Value} (ho : o.op = .call { callee:=.value (.func k),args:=xs.toArray,argTypes:=ts }) (hx : xs.map a.eval = args)
  (he : ∀ W,(callFunc k args.toArray).run P W = .ok (.enter k args.toArray) W) (hc : ∀ W,Ext w W → Calls P k args.toArray W fun e W' => e = .returned v ∧ Ext W W') : Made P o v a w :=
 made_call (fun W => by
  have h1 : execOp a.eval o = callFunc k (#[] ++ xs.toArray.map a.eval ++ #[]):=by
   cases o
   subst ho
   rfl
  rw [h1,List.map_toArray,hx]
  simpa using he W) hc
theorem made_bin {op : BinOp} {x y : Operand} {ty ty2 : TypeId} {u v r : Value} (ho : o.op = .binOp op ty x y ty2) (hx : a.eval x = u) (hy : a.eval y = v)
  (hg : ∀ W,(eqGuard op ty x y u v).run P W = .ok () W) (hr : ∀ W,(binOp op ty u v).run P W = .ok r W) : Made P o r a w:=zbg fun W _ => by
 unfold execOp
 simp only [ho,hx,hy,Sem.run_bind,hg W,Result.andThen_ok,hr W,Sem.run_pure]
theorem made_slice {ty : TypeId} {x : Operand} {lo hi mx : Option Operand} {u v : Value} (ho : o.op = .slice ty x lo hi mx) (hx : a.eval x = u)
  (h : ∀ W,(Instr.sliceAt ty u (lo.map a.eval) (hi.map a.eval) (mx.map a.eval)).run P W = .ok v W) : Made P o v a w:=zbg fun W _ => by
 unfold execOp
 simp only [ho,hx,Sem.run_bind,h W,Result.andThen_ok,Sem.run_pure]
theorem neq_of {t : TypeId} {c d : Array Value} {b r : Bool} {W : World} (h : (binOp .eql t (.agg c) (.agg d)).run P W = .ok (.bool b) W) (hr : (!b) = r) : (binOp .neq t (.agg c) (.agg d)).run P W = .ok (.bool r) W:=by
 subst hr
 have h1 : (do pure (Value.bool (← Op.equal t (.agg c) (.agg d))) : Sem Value).run P W = .ok (.bool b) W:=h
 show (do pure (Value.bool (!(← Op.equal t (.agg c) (.agg d)))) : Sem Value).run P W = .ok (.bool (!b)) W
 simp only [Sem.run_bind,Sem.run_pure] at h1 ⊢
 generalize (Op.equal t (.agg c) (.agg d)).run P W = r at h1 ⊢
 cases r with
 | ok v w' =>
  simp only [Result.andThen_ok,Result.ok.injEq,Value.bool.injEq] at h1 ⊢
  exact ⟨by rw [h1.1],h1.2⟩
 | halt x w' => simp [Result.andThen] at h1
end
section
variable (W : World)
theorem hzN : (Instr.alloc 58 true (.tuple #[])).run Tryz.prog W = .ok (ptrTo W.heap.size) (W.alloc (.cells #[vI vU 0,vI vU 0,vI vU 0,vI vU 0] 58)):=by simp [Instr.alloc,go_sem]
theorem wd_z : wd 0 0 = 0 ∧ wd 0 1 = 0 ∧ wd 0 2 = 0 ∧ wd 0 3 = 0:=by decide
theorem bldN0 : (Instr.build 58 [].toArray).run Tryz.prog W = .ok (nv 0) W:=by
 obtain ⟨h0,h1,h2,h3⟩:=wd_z
 unfold nv nc
 rw [h0,h1,h2,h3]
 simp [Instr.build,go_sem]
end
theorem zhr {w : World} {o : Obj} {k : Nat} (hk : k = w.heap.size) : (w.alloc o).heap[k]? = some o:=by subst hk; exact zab w o
theorem blocks1 (w : World) (A : Obj) : Ext w (w.alloc A) ∧ (w.alloc A).heap[w.heap.size]? = some A:=⟨Ext.alloc _ _,zhr rfl⟩
theorem blocks2 (w : World) (A B : Obj) : Ext w ((w.alloc A).alloc B) ∧ ((w.alloc A).alloc B).heap[w.heap.size]? = some A ∧ ((w.alloc A).alloc B).heap[w.heap.size + 1]? = some B :=
 ⟨(Ext.alloc _ _).trans (Ext.alloc _ _),(Ext.alloc _ _).block (zhr rfl),zhr (by simp)⟩
theorem blocks3 (w : World) (A B C : Obj) : Ext w (((w.alloc A).alloc B).alloc C) ∧ (((w.alloc A).alloc B).alloc C).heap[w.heap.size]? = some A ∧ (((w.alloc A).alloc B).alloc C).heap[w.heap.size + 1]? = some B ∧ (((w.alloc A).alloc B).alloc C).heap[w.heap.size + 1 + 1]? = some C :=
 ⟨(Ext.alloc _ _).trans ((Ext.alloc _ _).trans (Ext.alloc _ _)),((Ext.alloc _ _).trans (Ext.alloc _ _)).block (zhr rfl),(Ext.alloc _ _).block (zhr (by simp)),zhr (by simp)⟩
theorem wp_via1 {P : Program} {c : Code} {Q : Exit → Act → World → Prop} {a : Act} {w : World} {A : Obj} (h : ∀ w1,Ext w w1 → w1.heap[w.heap.size]? = some A → c.wp P Q a w1) : c.wp P Q a (w.alloc A):=h _ (blocks1 w A).1 (blocks1 w A).2
theorem wp_via2 {P : Program} {c : Code} {Q : Exit → Act → World → Prop} {a : Act} {w : World} {A B : Obj} (h : ∀ w1,Ext w w1 → w1.heap[w.heap.size]? = some A → w1.heap[w.heap.size + 1]? = some B → c.wp P Q a w1) : c.wp P Q a ((w.alloc A).alloc B):=h _ (blocks2 w A B).1 (blocks2 w A B).2.1 (blocks2 w A B).2.2
theorem Ext.new {w w1 W : World} {r : Nat} (h : Ext w w1) (k : But r w1 W) (hr : w.heap.size ≤ r) : Ext w W:=Below.trans h (k.new hr (Below.size h))
theorem made_not' {P : Program} {o : Oper} {a : Act} {w : World} {ty : TypeId} {x : Operand} {b r : Bool} (ho : o.op = .unOp .not ty x) (hx : a.eval x = .bool b) (hr : (!b) = r) : Made P o (.bool r) a w:=hr ▸ made_not ho hx
theorem eqN {X : Nat} (W : World) : (binOp .eql 58 (nv X) (nv X)).run Tryz.prog W = .ok (.bool true) W:=eql_num_same X W
theorem neN {X : Nat} (W : World) : (binOp .neq 58 (nv X) (nv X)).run Tryz.prog W = .ok (.bool false) W:=neq_of (eqN W) rfl
theorem gN (X Y : Nat) (op : BinOp) (x y : Operand) (W : World) : (eqGuard op 58 x y (nv X) (nv Y)).run Tryz.prog W = .ok () W:=by
 unfold nv nc
 cases op <;> simp [eqGuard,go_sem]
def lev (z : Nat → Nat) : Nat → Nat
 | 0 => 0
 | i + 1 => lev z i + z i * 256 ^ i
theorem zik {z : Nat → Nat} (hz : ∀ j,z j < 256) : ∀ i,lev z i < 256 ^ i
 | 0 => by simp [lev]
 | i + 1 => by
  have h:=zik hz i
  have h2 : z i * 256 ^ i ≤ 255 * 256 ^ i:=Nat.mul_le_mul_right _ (by have:=hz i; omega)
  show lev z i + z i * 256 ^ i < _
  rw [Nat.pow_succ]
  omega
theorem dg_put (m q r L c : Nat) (hr : r < m) (hL : L < 256 ^ (m * q + r)) (hc : c < 256) (j : Nat) :
  dg (256 ^ m) (L + c * 256 ^ (m * q + r)) j = if j = q then dg (256 ^ m) L j + c * 256 ^ r else dg (256 ^ m) L j:=by
 have hB : 0 < 256 ^ m:=Nat.pow_pos (by omega)
 have hp : ∀ k,0 < (256 ^ m) ^ k:=fun k => Nat.pow_pos hB
 have e : 256 ^ (m * q + r) = (256 ^ m) ^ q * 256 ^ r:=by rw [Nat.pow_add,Nat.pow_mul]
 have hrm : 256 ^ r * 256 ≤ 256 ^ m:=by rw [← Nat.pow_succ]; exact Nat.pow_le_pow_right (by omega) hr
 rw [e] at hL ⊢
 have hLq : L / (256 ^ m) ^ q < 256 ^ r:=by rw [Nat.div_lt_iff_lt_mul (hp q),Nat.mul_comm]; exact hL
 have hcr : c * 256 ^ r ≤ 255 * 256 ^ r:=Nat.mul_le_mul_right _ (by omega)
 rw [show c * ((256 ^ m) ^ q * 256 ^ r) = (256 ^ m) ^ q * (c * 256 ^ r) by rw [Nat.mul_left_comm]]
 by_cases hj : j = q
 ·
  subst hj
  rw [if_pos rfl]
  unfold dg
  rw [Nat.add_mul_div_left _ _ (hp j),Nat.mod_eq_of_lt (by omega),Nat.mod_eq_of_lt (by omega)]
 ·
  rw [if_neg hj]
  by_cases hlt : j < q
  ·
   rw [← zcn _ q j hlt,Nat.add_mul_mod_self_left,zcn _ q j hlt]
  ·
   have hjq : q + 1 ≤ j:=by omega
   have hle : (256 ^ m) ^ (q + 1) ≤ (256 ^ m) ^ j:=Nat.pow_le_pow_right hB hjq
   rw [Nat.pow_succ] at hle
   have h1 : (256 ^ m) ^ q * (256 ^ r + c * 256 ^ r) ≤ (256 ^ m) ^ q * 256 ^ m:=Nat.mul_le_mul_left _ (by omega)
   rw [Nat.mul_add] at h1
   unfold dg
   rw [Nat.div_eq_of_lt (show L < _ by omega),Nat.div_eq_of_lt (show L + (256 ^ m) ^ q * (c * 256 ^ r) < _ by omega)]
theorem w64_bytes : w64 = 256 ^ 8:=by decide
theorem w16_bytes : w16 = 256 ^ 2:=by decide
theorem two_256 (r : Nat) : 2 ^ (r * 8) = 256 ^ r:=by rw [Nat.mul_comm,Nat.pow_mul]
theorem wd_put (L c k j : Nat) (hL : L < 256 ^ k) (hc : c < 256) : wd (L + c * 256 ^ k) j = if j = k / 8 then wd L j + (c * 256 ^ (k % 8) : Nat) else wd L j:=by
 have h:=dg_put 8 (k / 8) (k % 8) L c (Nat.mod_lt _ (by omega)) (by rw [Nat.div_add_mod]; exact hL) hc j
 rw [Nat.div_add_mod,← w64_bytes] at h
 unfold wd
 rw [h]
 split
 ·
  rw [Int.natCast_add]
 ·
  rfl
theorem of_word (L c k : Nat) (hL : L < 256 ^ k) (hc : c < 256) : bits .or .u64 (wd L (k / 8)) (IntKind.u64.wrap ((c : Int) * 2 ^ (k % 8 * 8))) = wd (L + c * 256 ^ k) (k / 8):=by
 have hr : k % 8 < 8:=Nat.mod_lt _ (by omega)
 have hp : 256 ^ (k % 8) ≤ 256 ^ 7:=Nat.pow_le_pow_right (by omega) (by omega)
 have h7 : (256 : Nat) ^ 7 = 72057594037927936:=by decide
 have hcr : c * 256 ^ (k % 8) ≤ 255 * 256 ^ (k % 8):=Nat.mul_le_mul_right _ (by omega)
 have hq : dg w64 L (k / 8) < 256 ^ (k % 8):=by
  have e : 256 ^ k = w64 ^ (k / 8) * 256 ^ (k % 8):=by
   rw [w64_bytes,← Nat.pow_mul,← Nat.pow_add,Nat.div_add_mod]
  unfold dg
  refine Nat.lt_of_le_of_lt (Nat.mod_le _ _) ?_
  rw [Nat.div_lt_iff_lt_mul (Nat.pow_pos zam),Nat.mul_comm,← e]
  exact hL
 have ec : (c : Int) * 2 ^ (k % 8 * 8) = ((c * 256 ^ (k % 8) : Nat) : Int):=by
  rw [← two_256,Int.natCast_mul,Int.natCast_pow]
  rfl
 rw [wd_put L c k _ hL hc,if_pos rfl,ec,IntKind.wrap_u64]
 unfold wd
 rw [show ((c * 256 ^ (k % 8) : Nat) : Int) % 18446744073709551616 = ((c * 256 ^ (k % 8) : Nat) : Int) by omega]
 rw [u64_or_nat _ _ (by omega) (by omega),Nat.or_comm,nat_join (8 * (k % 8)) _ _ (by rw [Nat.mul_comm 8,two_256]; exact Nat.mul_mod_left _ _) (by rw [Nat.mul_comm 8,two_256]; exact hq)]
 omega
theorem of_step (z : Nat → Nat) (k : Nat) (hz : ∀ j,z j < 256) (i : Nat) :
  (if i = k / 8 then Value.int .u64 (wd (lev z k + z k * 256 ^ k) (k / 8)) else Value.int .u64 (wd (lev z k) i)) = Value.int .u64 (wd (lev z (k + 1)) i):=by
 show _ = Value.int .u64 (wd (lev z k + z k * 256 ^ k) i)
 by_cases h : i = k / 8
 ·
  rw [if_pos h,h]
 ·
  rw [if_neg h,wd_put _ _ _ _ (zik hz k) (hz k),if_neg h]
theorem wd_zero (i : Nat) : wd 0 i = 0:=by unfold wd dg; simp
theorem of_some (b o n c : Nat) (y : Nat → Nat) (hy : ∀ j,y j < 256) (hn : n ≤ 32) (w : World) (hb : b < w.heap.size) (hcell : ∀ j,j < n → w.cell? ⟨b,o + j,none⟩ = some (.int .u8 (y j))) :
  Calls Tryz.prog 92 #[.slice (some ⟨b,o,none⟩) n c] w fun e w' => e = .returned (.tuple #[.agg #[vI vU (wd (lev (fun k => y (n - 1 - k)) n) 0),vI vU (wd (lev (fun k => y (n - 1 - k)) n) 1),vI vU (wd (lev (fun k => y (n - 1 - k)) n) 2),vI vU (wd (lev (fun k => y (n - 1 - k)) n) 3)],.nilIface]) ∧ Below w.heap.size w w':=by
 have HY:=veil hy
 have HC:=veil hcell
 clear hy hcell
 have hn' : (n : Int) ≤ 32:=by omega
 go_enter Tryz.func92,Tryz.ntmps92
 go_wp2
 go_loopw [13] (fun i wr => ∃ k : Nat,k ≤ n ∧ i = .int .i64 k ∧ wr.rowIs w.heap.size 58 4 (fun _ => .int .u64 0) ∧ wr.rowIs (w.heap.size + 1) 58 4 (fun j => .int .u64 (wd (lev (fun k => y (n - 1 - k)) k) j)) ∧ Below w.heap.size w wr)
  (fun i _ => n - (intOf i).toNat)
 case atStart => exact ⟨0,by omega,rfl,(zah (n:=4) rfl rfl (arr4 fun _ => .int .u64 0)).alloc _,(zah (n:=4) (f:=fun _ => .int .u64 0) (by simp) rfl (arr4 fun _ => .int .u64 0)).congr (fun i _ => by rw [lev,wd_zero]),((Below.refl _ _).alloc (by simp) _).alloc (by simp) _⟩
 case round =>
  obtain ⟨k,hk,rfl,hR,hS,hbel⟩:=hrel
  by_cases hlt : k < n
  ·
   have hk8 : k / 8 < 4:=by omega
   have c1:=hS.cell hk8
   have f1:=hS.frozen (k / 8)
   obtain ⟨j,hj⟩ : ∃ j,j = n - 1 - k:=⟨_,rfl⟩
   have hji : (n : Int) - 1 - (k : Int) = (j : Int):=by omega
   have hjn : (j : Int) < (n : Int):=by omega
   have hkn : (k : Int) < (n : Int):=by omega
   have c2:=(hbel.cell (p:=⟨b,o + j,none⟩) hb).trans (HC.out j (by omega))
   have l1:=wd_lo (lev (fun k => y (n - 1 - k)) k) (k / 8)
   have u1:=wd_le (lev (fun k => y (n - 1 - k)) k) (k / 8)
   have u2 : (y j : Int) ≤ 255:=by have:=HY.out j; omega
   have hst:=of_step (fun k => y (n - 1 - k)) k (fun j => HY.out _)
   have HS:=veil hst
   clear hst
   have HJ:=veil hj
   clear hj
   go_wp2
   go_region
   all_goals
    go_wp2
    go_roundw
    case rel =>
     rw [show y j = y (n - 1 - k) by rw [HJ.out],of_word _ _ _ (zik (fun j => HY.out _) k) (HY.out _)]
     exact ⟨k + 1,by omega,by go_num,(zaq hR (by omega) _).drew,((hS.set (k / 8) _).congr fun i _ => HS.out i).drew,(zag hbel (by omega) _).drew⟩
    case measure => simp [intOf]; omega
  ·
   obtain rfl : k = n:=by omega
   obtain ⟨c0,c1,c2,c3⟩:=zak hS
   obtain ⟨d0,d1,d2,d3⟩:=zak hR
   obtain ⟨f0,f1,f2,f3⟩:=zbi hR
   go_wp2
   refine bodyPost_ret (zcc rfl _ _ w.heap.size 58 #[vI vU (wd (lev (fun j => y (k - 1 - j)) k) 0),vI vU (wd (lev (fun j => y (k - 1 - j)) k) 1),vI vU (wd (lev (fun j => y (k - 1 - j)) k) 2),vI vU (wd (lev (fun j => y (k - 1 - j)) k) 3)] (0,0) 4 56 rfl (blk4 (put4 hR fun j => .int .u64 (wd (lev (fun j => y (k - 1 - j)) k) j))) Tryz.underlying58 (by kernel_rfl)) rfl ⟨rfl,zas hbel (Nat.le_refl _) _ _ _ _⟩
def qc (x y : Nat) (f : Bool) : Array Value:=#[vI vU (wd x 0),vI vU (wd x 1),vI vU (wd x 2),vI vU (wd x 3),vI vU (wd y 0),vI vU (wd y 1),vI vU (wd y 2),vI vU (wd y 3),.bool (f)]
def qv (x y : Nat) (f : Bool) : Value:=.agg (qc x y f)
theorem zgm (x y : Nat) (f : Bool) : (qc x y f).all (·.oneCell') = true:=by simp [qc,Value.oneCell']
theorem iT (x y : Nat) (f : Bool) : (Tryz.prog.info? 60).map (·.size) = some (qc x y f).size:=by kernel_rfl
theorem isn_bool (W : World) : (isAgg 4).run Tryz.prog W = .ok false W:=by simp [isAgg,go_sem]
section
variable (g : Nat) (W : World)
theorem fldT0 : (Instr.fieldAt 60 (ptrTo g) 0).run Tryz.prog W = .ok (.pointer (some ⟨g,0,none⟩)) W:=by simp [Instr.fieldAt,go_sem]
theorem fldT2 : (Instr.fieldAt 60 (ptrTo g) 2).run Tryz.prog W = .ok (.pointer (some ⟨g,8,none⟩)) W:=by simp [Instr.fieldAt,go_sem]
theorem hzT : (Instr.alloc 60 true (.tuple #[])).run Tryz.prog W = .ok (ptrTo W.heap.size) (W.alloc (.cells #[vI vU 0,vI vU 0,vI vU 0,vI vU 0,vI vU 0,vI vU 0,vI vU 0,vI vU 0,.bool false] 60)):=by simp [Instr.alloc,go_sem]
end
section
variable {P : Program} {T : TypeId} {X Y : Operand} {W : World}
theorem inc_run {n : Nat} (h : n < 4294967296) : (binK .add T X Y (.int .i64 (n : Int)) (.int .i64 1)).run P W = .ok (.int .i64 ((n + 1 : Nat) : Int)) W:=by
 unfold binK
 simp [go_sem,eqGuard]
 exact IntWalk.i64_in _ (by omega)
theorem rem2_run {a b : Int} (h : a % 2 = b) (h0 : 0 ≤ a) : (binK .rem T X Y (.int .u64 a) (.int .u64 2)).run P W = .ok (.int .u64 b) W:=by
 unfold binK
 simp [go_sem,eqGuard]
 rw [Int.tmod_eq_emod_of_nonneg h0,h]
theorem quo2_run {a b : Int} (h : a / 2 = b) (h0 : 0 ≤ a) (h1 : a ≤ 18446744073709551615) : (binK .quo T X Y (.int .u64 a) (.int .u64 2)).run P W = .ok (.int .u64 b) W:=by
 unfold binK
 simp [go_sem,eqGuard]
 rw [Int.tdiv_eq_ediv_of_nonneg h0,h]
 exact IntWalk.u64_in _ (by omega)
theorem addh_run {a b : Int} (h : a + 9223372036854775808 = b) (h0 : 0 ≤ b) (h1 : b ≤ 18446744073709551615) : (binK .add T X Y (.int .u64 a) (.int .u64 9223372036854775808)).run P W = .ok (.int .u64 b) W:=by
 subst h
 unfold binK
 simp [go_sem,eqGuard]
 exact IntWalk.u64_in _ (by omega)
theorem dbl_run {n : Nat} : (binK .add T X Y (.int .u64 (n : Int)) (.int .u64 (n : Int))).run P W = .ok (.int .u64 (((n + n) % 18446744073709551616 : Nat) : Int)) W:=by
 unfold binK
 simp [go_sem,eqGuard]
 rw [IntKind.wrap_u64]
theorem high_run {n : Nat} {v : Bool} (h : decide (9223372036854775808 ≤ n) = v) : (binK .geq T X Y (.int .u64 (n : Int)) (.int .u64 9223372036854775808)).run P W = .ok (.bool v) W:=by
 subst h
 unfold binK
 simp [go_sem,eqGuard]
 omega
theorem zjn {a b : Int} (h : a - 1 = b) (h0 : 0 ≤ a) (h1 : a < 4294967296) : (binK .sub T X Y (.int .i64 a) (.int .i64 1)).run P W = .ok (.int .i64 b) W:=by
 subst h
 unfold binK
 simp [go_sem,eqGuard]
 exact IntWalk.i64_in _ (by omega)
theorem lssi_run {n : Nat} {m : Int} (h : (n : Int) < m) : (binK .lss T X Y (.int .i64 (n : Int)) (.int .i64 m)).run P W = .ok (.bool true) W:=by
 unfold binK
 simp [go_sem,eqGuard,h]
theorem lss_run {c d : Int} {v : Bool} (h : decide (c < d) = v) : (binK .lss T X Y (.int .i64 c) (.int .i64 d)).run P W = .ok (.bool v) W:=by
 subst h
 unfold binK
 simp [go_sem,eqGuard]
end
def lst (l : List Nat) : Nat → Nat:=fun k => l.getD k 0
def cN (n : Nat) : List SV:=[.v (.int .u64 (wd n 0)),.v (.int .u64 (wd n 1)),.v (.int .u64 (wd n 2)),.v (.int .u64 (wd n 3))]
def cZ : List SV:=[.v (.int .u64 0),.v (.int .u64 0),.v (.int .u64 0),.v (.int .u64 0)]
theorem add64 (x y c : Int) (hx : 0 ≤ x) (hy : 0 ≤ y) (hc0 : 0 ≤ c) (hc : c ≤ 1) (w : World) :
  (callFunc 204 #[vI vU x,vI vU y,vI vU c]).run Tryz.prog w = .ok (.value (.tuple #[vI vU ((x + y + c) % 18446744073709551616),vI vU ((x + y + c) / 18446744073709551616)])) w:=by
 rw [run_callFunc_extern Tryz.func204 (by kernel_rfl) (by kernel_rfl) (by kernel_rfl) (e:=add64Entry) (by kernel_rfl),run_add64 x y c hx hy hc0 hc]
 rfl
def cyI (X Y i : Nat) : Int:=(cy w64 X Y i : Nat)
theorem add64_at (X Y k : Nat) (w : World) :
  (callFunc 204 #[vI vU (wd X k),vI vU (wd Y k),vI vU (cyI X Y k)]).run Tryz.prog w = .ok (.value (.tuple #[vI vU (wd (X + Y) k),vI vU (cyI X Y (k + 1))])) w:=by
 have hc:=cy_le zam X Y k
 rw [add64 _ _ _ (wd_lo _ _) (wd_lo _ _) (by unfold cyI; omega) (by unfold cyI; omega)]
 unfold wd cyI
 rw [cy_succ zam,dg_add zam]
 unfold w64
 simp
theorem cyI_top {X Y : Nat} (hX : X < top) (hY : Y < top) : (cyI X Y 4 != 0) = decide (top ≤ X + Y):=by
 unfold cyI
 rw [cy_top (n:=4) hX hY]
 show _ = decide (w64 ^ 4 ≤ X + Y)
 by_cases h : w64 ^ 4 ≤ X + Y <;> simp [h]
theorem add_any (X Y : Nat) (hX : X < top) (hY : Y < top) (w : World) :
  Calls Tryz.prog 183 #[.agg #[vI vU (wd X 0),vI vU (wd X 1),vI vU (wd X 2),vI vU (wd X 3)],.agg #[vI vU (wd Y 0),vI vU (wd Y 1),vI vU (wd Y 2),vI vU (wd Y 3)]] w fun e w' =>
   e = .returned (.tuple #[.agg #[vI vU (wd (X + Y) 0),vI vU (wd (X + Y) 1),vI vU (wd (X + Y) 2),vI vU (wd (X + Y) 3)],.bool (decide (top ≤ X + Y))]) ∧ Below w.heap.size w w':=by
 have h29:=fun (k : Nat) (W : World) => add64_at X Y k W
 go_enter Tryz.func183,Tryz.ntmps183
 go_wp2
 go_loopw [7,9] (fun c i wr => ∃ k : Nat,k ≤ 4 ∧ i = .int .i64 k ∧ c = .int .u64 (cyI X Y k) ∧ wr.rowIs w.heap.size 58 4 (fun j => .int .u64 (wd X j))
   ∧ wr.rowIs (w.heap.size + 1) 58 4 (fun j => .int .u64 (wd Y j)) ∧ wr.rowIs (w.heap.size + 1 + 1) 58 4 (fun _ => .int .u64 0)
   ∧ wr.rowIs (w.heap.size + 1 + 1 + 1) 58 4 (fun j => .int .u64 (if j < k then wd (X + Y) j else 0)) ∧ Below w.heap.size w wr)
  (fun _ i _ => 4 - (intOf i).toNat)
 case atStart => exact ⟨0,by omega,rfl,by simp [cyI,cy_zero],(((zah (n:=4) (by simp) rfl (arr4 fun j => .int .u64 (wd X j))).alloc _).alloc _).alloc _,((zah (n:=4) (by simp) rfl (arr4 fun j => .int .u64 (wd Y j))).alloc _).alloc _,(zah (n:=4) (by simp) rfl (arr4 fun _ => .int .u64 0)).alloc _,zah (n:=4) (by simp) rfl (arr4 fun _ => .int .u64 0),((((Below.refl _ _).alloc (by simp) _).alloc (by simp) _).alloc (by simp; omega) _).alloc (by simp; omega) _⟩
 case round =>
  obtain ⟨k,hk,rfl,rfl,hRX,hRY,hRZ,hRS,hbel⟩:=hrel
  by_cases hlt : k < 4
  ·
   have c1:=hRX.cell hlt
   have c2:=hRY.cell hlt
   have c3:=hRS.cell hlt
   have f3:=hRS.frozen k
   go_wp2
   go_region_with (fail)
   all_goals
    go_wp2
    go_roundw
    case rel => exact ⟨k + 1,by omega,by go_num,rfl,(zaq hRX (by omega) _).drew,(zaq hRY (by omega) _).drew,(zaq hRZ (by omega) _).drew,((hRS.set k _).congr (row_step hlt)).drew,(zag hbel (by omega) _).drew⟩
    case measure => simp [intOf]; omega
  ·
   obtain rfl : k = 4:=by omega
   obtain ⟨c0,c1,c2,c3⟩:=zak hRS
   obtain ⟨d0,d1,d2,d3⟩:=zak hRZ
   obtain ⟨f0,f1,f2,f3⟩:=zbi hRZ
   simp only [show (0 : Nat) < 4 from by omega,show (1 : Nat) < 4 from by omega,show (2 : Nat) < 4 from by omega,show (3 : Nat) < 4 from by omega,if_true] at c0 c1 c2 c3
   clear hRX hRY hRS
   have hz:=cyI_top hX hY
   go_wp2
   refine bodyPost_ret (zcc rfl _ _ (w.heap.size + 1 + 1) 58 #[vI vU (wd (X + Y) 0),vI vU (wd (X + Y) 1),vI vU (wd (X + Y) 2),vI vU (wd (X + Y) 3)] (0,0) 4 56 rfl (blk4 (put4 hRZ fun j => .int .u64 (wd (X + Y) j))) Tryz.underlying58 (by kernel_rfl)) rfl ⟨?_,zas hbel (by omega) _ _ _ _⟩
   rfl
theorem add_calls (X Y : Nat) (hX : X < top) (hY : Y < top) (w : World) :
  Calls Tryz.prog 183 #[.agg #[vI vU (wd X 0),vI vU (wd X 1),vI vU (wd X 2),vI vU (wd X 3)],.agg #[vI vU (wd Y 0),vI vU (wd Y 1),vI vU (wd Y 2),vI vU (wd Y 3)]] w fun e w' => e = .returned (.tuple #[.agg #[vI vU (wd ((X + Y) % top) 0),vI vU (wd ((X + Y) % top) 1),vI vU (wd ((X + Y) % top) 2),vI vU (wd ((X + Y) % top) 3)],.bool (decide (top ≤ X + Y))]) ∧ Below w.heap.size w w':=by
 rw [zdw _ 0 (by omega),zdw _ 1 (by omega),zdw _ 2 (by omega),zdw _ 3 (by omega)]
 exact add_any X Y hX hY w
def sub64Entry : Array Value → Sem Value:=fun args => do
 let (x,y,b) ← Extern.MathBitsCarry.three "Sub64" args
 pure (Extern.MathBitsCarry.pair ((x + Extern.MathBitsCarry.m64 - y - b) % Extern.MathBitsCarry.m64) (if x < y + b then 1 else 0))
theorem run_sub64 (x y b : Nat) (hb : b ≤ 1) (w : World) :
  (sub64Entry #[vI vU (x : Int),vI vU (y : Int),vI vU (b : Int)]).run Tryz.prog w =
   .ok (.tuple #[vI vU (((x + w64 - y - b) % w64 : Nat) : Int),vI vU ((if x < y + b then 1 else 0 : Nat) : Int)]) w:=by
 have : b = 0 ∨ b = 1:=by omega
 rcases this with rfl | rfl <;> rfl
theorem sub64 (x y b : Nat) (hb : b ≤ 1) (w : World) :
  (callFunc 184 #[vI vU (x : Int),vI vU (y : Int),vI vU (b : Int)]).run Tryz.prog w = .ok (.value (.tuple #[vI vU (((x + w64 - y - b) % w64 : Nat) : Int),vI vU ((if x < y + b then 1 else 0 : Nat) : Int)])) w:=by
 rw [run_callFunc_extern Tryz.func184 (by kernel_rfl) (by kernel_rfl) (by kernel_rfl) (e:=sub64Entry) (by kernel_rfl),run_sub64 x y b hb]
 rfl
def bwI (X Y i : Nat) : Int:=(bw w64 X Y i : Nat)
theorem sub64_at (X Y k : Nat) (hk : k < 4) (hY : Y ≤ top) (w : World) :
  (callFunc 184 #[vI vU (wd X k),vI vU (wd Y k),vI vU (bwI X Y k)]).run Tryz.prog w = .ok (.value (.tuple #[vI vU (wd (X + top - Y) k),vI vU (bwI X Y (k + 1))])) w:=by
 unfold wd bwI
 rw [sub64 _ _ _ (bw_le w64 X Y k)]
 unfold top at hY ⊢
 rw [bw_succ zam,dg_sub zam X Y 4 k hk hY]
theorem bwI_top {X Y : Nat} (hX : X < top) (hY : Y < top) : (bwI X Y 4 != 0) = decide (X < Y):=by
 unfold bwI
 rw [bw_top (n:=4) hX hY]
 by_cases h : X < Y <;> simp [h]
theorem sub_any (X Y : Nat) (hX : X < top) (hY : Y < top) (w : World) :
  Calls Tryz.prog 149 #[.agg #[vI vU (wd X 0),vI vU (wd X 1),vI vU (wd X 2),vI vU (wd X 3)],.agg #[vI vU (wd Y 0),vI vU (wd Y 1),vI vU (wd Y 2),vI vU (wd Y 3)]] w fun e w' =>
   e = .returned (.tuple #[.agg #[vI vU (wd (X + top - Y) 0),vI vU (wd (X + top - Y) 1),vI vU (wd (X + top - Y) 2),vI vU (wd (X + top - Y) 3)],.bool (decide (X < Y))]) ∧ Below w.heap.size w w':=by
 go_enter Tryz.func149,Tryz.ntmps149
 go_wp2
 go_loopw [7,9] (fun c i wr => ∃ k : Nat,k ≤ 4 ∧ i = .int .i64 k ∧ c = .int .u64 (bwI X Y k) ∧ wr.rowIs w.heap.size 58 4 (fun j => .int .u64 (wd X j))
   ∧ wr.rowIs (w.heap.size + 1) 58 4 (fun j => .int .u64 (wd Y j)) ∧ wr.rowIs (w.heap.size + 1 + 1) 58 4 (fun _ => .int .u64 0)
   ∧ wr.rowIs (w.heap.size + 1 + 1 + 1) 58 4 (fun j => .int .u64 (if j < k then wd (X + top - Y) j else 0)) ∧ Below w.heap.size w wr)
  (fun _ i _ => 4 - (intOf i).toNat)
 case atStart => exact ⟨0,by omega,rfl,by simp [bwI,bw_zero],(((zah (n:=4) (by simp) rfl (arr4 fun j => .int .u64 (wd X j))).alloc _).alloc _).alloc _,((zah (n:=4) (by simp) rfl (arr4 fun j => .int .u64 (wd Y j))).alloc _).alloc _,(zah (n:=4) (by simp) rfl (arr4 fun _ => .int .u64 0)).alloc _,zah (n:=4) (by simp) rfl (arr4 fun _ => .int .u64 0),((((Below.refl _ _).alloc (by simp) _).alloc (by simp) _).alloc (by simp; omega) _).alloc (by simp; omega) _⟩
 case round =>
  obtain ⟨k,hk,rfl,rfl,hRX,hRY,hRZ,hRS,hbel⟩:=hrel
  by_cases hlt : k < 4
  ·
   have c1:=hRX.cell hlt
   have c2:=hRY.cell hlt
   have c3:=hRS.cell hlt
   have f3:=hRS.frozen k
   have h30:=fun (W : World) => sub64_at X Y k hlt (Nat.le_of_lt hY) W
   go_wp2
   go_region_with (fail)
   all_goals
    go_wp2
    go_roundw
    case rel => exact ⟨k + 1,by omega,by go_num,rfl,(zaq hRX (by omega) _).drew,(zaq hRY (by omega) _).drew,(zaq hRZ (by omega) _).drew,((hRS.set k _).congr (row_step hlt)).drew,(zag hbel (by omega) _).drew⟩
    case measure => simp [intOf]; omega
  ·
   obtain rfl : k = 4:=by omega
   obtain ⟨c0,c1,c2,c3⟩:=zak hRS
   obtain ⟨d0,d1,d2,d3⟩:=zak hRZ
   obtain ⟨f0,f1,f2,f3⟩:=zbi hRZ
   simp only [show (0 : Nat) < 4 from by omega,show (1 : Nat) < 4 from by omega,show (2 : Nat) < 4 from by omega,show (3 : Nat) < 4 from by omega,if_true] at c0 c1 c2 c3
   clear hRX hRY hRS
   have hz:=bwI_top hX hY
   go_wp2
   refine bodyPost_ret (zcc rfl _ _ (w.heap.size + 1 + 1) 58 #[vI vU (wd (X + top - Y) 0),vI vU (wd (X + top - Y) 1),vI vU (wd (X + top - Y) 2),vI vU (wd (X + top - Y) 3)] (0,0) 4 56 rfl (blk4 (put4 hRZ fun j => .int .u64 (wd (X + top - Y) j))) Tryz.underlying58 (by kernel_rfl)) rfl ⟨?_,zas hbel (by omega) _ _ _ _⟩
   rfl
theorem sub_calls (X Y : Nat) (hX : X < top) (hY : Y < top) (w : World) :
  Calls Tryz.prog 149 #[.agg #[vI vU (wd X 0),vI vU (wd X 1),vI vU (wd X 2),vI vU (wd X 3)],.agg #[vI vU (wd Y 0),vI vU (wd Y 1),vI vU (wd Y 2),vI vU (wd Y 3)]] w fun e w' => e = .returned (.tuple #[.agg #[vI vU (wd ((X + top - Y) % top) 0),vI vU (wd ((X + top - Y) % top) 1),vI vU (wd ((X + top - Y) % top) 2),vI vU (wd ((X + top - Y) % top) 3)],.bool (decide (X < Y))]) ∧ Below w.heap.size w w':=by
 rw [zdw _ 0 (by omega),zdw _ 1 (by omega),zdw _ 2 (by omega),zdw _ 3 (by omega)]
 exact sub_any X Y hX hY w
def cmpN (X Y : Nat) : Int:=if X < Y then -1 else if Y < X then 1 else 0
theorem zjz (B X Y k : Nat) (hB : 0 < B) : cmpN (X % B ^ (k + 1)) (Y % B ^ (k + 1)) = if dg B X k < dg B Y k then -1 else if dg B Y k < dg B X k then 1 else cmpN (X % B ^ k) (Y % B ^ k):=by
 have hp : 0 < B ^ k:=Nat.pow_pos hB
 have h1:=Nat.mod_lt X hp
 have h2:=Nat.mod_lt Y hp
 unfold cmpN
 rw [zbq,zbq]
 generalize dg B X k = x
 generalize dg B Y k = y
 generalize X % B ^ k = r at *
 generalize Y % B ^ k = s at *
 generalize B ^ k = P at *
 by_cases hxy : x < y
 ·
  have : P * x + P ≤ P * y:=by rw [← Nat.mul_succ]; exact Nat.mul_le_mul_left _ hxy
  rw [if_pos (by omega),if_pos hxy]
 ·
  by_cases hyx : y < x
  ·
   have : P * y + P ≤ P * x:=by rw [← Nat.mul_succ]; exact Nat.mul_le_mul_left _ hyx
   rw [if_neg (by omega),if_pos (by omega),if_neg hxy,if_pos hyx]
  ·
   have hxy' : x = y:=by omega
   subst hxy'
   simp
theorem cmp_high (B X Y n m : Nat) (hB : 0 < B) (hX : X < B ^ n) (hY : Y < B ^ n) (hm : m < n) (h : ∀ j,m < j → j < n → dg B X j = dg B Y j) (hne : dg B X m ≠ dg B Y m) :
  cmpN X Y = if dg B X m < dg B Y m then -1 else 1:=by
 have e : X / B ^ (m + 1) = Y / B ^ (m + 1):=by
  have hn : B ^ n = B ^ (m + 1) * B ^ (n - (m + 1)):=by rw [← Nat.pow_add]; congr 1; omega
  refine zgy hB (n:=n - (m + 1)) ?_ ?_ fun i hi => ?_
  ·
   rw [Nat.div_lt_iff_lt_mul (Nat.pow_pos hB),Nat.mul_comm,← hn]; exact hX
  ·
   rw [Nat.div_lt_iff_lt_mul (Nat.pow_pos hB),Nat.mul_comm,← hn]; exact hY
  ·
   have:=h (m + 1 + i) (by omega) (by omega)
   unfold dg at *
   rwa [Nat.div_div_eq_div_mul,Nat.div_div_eq_div_mul,← Nat.pow_add]
 have c : cmpN X Y = cmpN (X % B ^ (m + 1)) (Y % B ^ (m + 1)):=by
  have hx:=Nat.mod_add_div X (B ^ (m + 1))
  have hy:=Nat.mod_add_div Y (B ^ (m + 1))
  rw [e] at hx
  unfold cmpN
  generalize B ^ (m + 1) * (Y / B ^ (m + 1)) = q at *
  generalize X % B ^ (m + 1) = r at *
  generalize Y % B ^ (m + 1) = s at *
  subst hx; subst hy
  simp
 rw [c,zjz B X Y m hB]
 by_cases hlt : dg B X m < dg B Y m
 ·
  rw [if_pos hlt,if_pos hlt]
 ·
  rw [if_neg hlt,if_neg hlt,if_pos (by omega)]
theorem compare_lt (x y : Int) (h : x < y) (w : World) : Calls Tryz.prog 180 #[vI vU x,vI vU y] w fun e w' => e = .returned (.int .i64 (-1)) ∧ w' = w:=by
 go_enter Tryz.func180,Tryz.ntmps180
 go_wp2
 go_ret
 exact ⟨rfl,rfl⟩
theorem compare_gt (x y : Int) (h : y < x) (w : World) : Calls Tryz.prog 180 #[vI vU x,vI vU y] w fun e w' => e = .returned (.int .i64 1) ∧ w' = w:=by
 go_enter Tryz.func180,Tryz.ntmps180
 go_wp2
 go_ret
 exact ⟨rfl,rfl⟩
theorem wd_cmp {X Y k : Nat} (h : dg w64 X k < dg w64 Y k) : wd X k < wd Y k:=by unfold wd; omega
theorem cmp_calls (X Y : Nat) (hX : X < top) (hY : Y < top) (w : World) :
  Calls Tryz.prog 143 #[.agg #[vI vU (wd X 0),vI vU (wd X 1),vI vU (wd X 2),vI vU (wd X 3)],.agg #[vI vU (wd Y 0),vI vU (wd Y 1),vI vU (wd Y 2),vI vU (wd Y 3)]] w fun e w' => e = .returned (.int .i64 (cmpN X Y)) ∧ Below w.heap.size w w':=by
 go_enter Tryz.func143,Tryz.ntmps143
 go_wp2
 go_loopw [5] (fun i wr => ∃ k : Nat,k ≤ 4 ∧ i = .int .i64 ((k : Int) - 1) ∧ (∀ j,k ≤ j → j < 4 → dg w64 X j = dg w64 Y j) ∧ wr.rowIs w.heap.size 58 4 (fun j => .int .u64 (wd X j))
   ∧ wr.rowIs (w.heap.size + 1) 58 4 (fun j => .int .u64 (wd Y j)) ∧ Below w.heap.size w wr)
  (fun i _ => (intOf i + 1).toNat)
 case atStart => exact ⟨4,by omega,rfl,by intro j h1 h2; omega,(zah (n:=4) (by simp) rfl (arr4 fun j => .int .u64 (wd X j))).alloc _,zah (n:=4) (by simp) rfl (arr4 fun j => .int .u64 (wd Y j)),((Below.refl _ _).alloc (by simp) _).alloc (by simp) _⟩
 case round =>
  obtain ⟨k,hk,hi,hall,hRX,hRY,hbel⟩:=hrel
  have HALL:=veil hall
  clear hall
  cases k with
  | zero =>
   subst hi
   have hXY : X = Y:=zgy zam hX hY fun j hj => HALL.out j (Nat.zero_le _) hj
   go_wp2
   go_ret
   have hc : cmpN X Y = 0:=by unfold cmpN; rw [if_neg (by omega),if_neg (by omega)]
   rw [hc]
   exact ⟨rfl,hbel⟩
  | succ m =>
   obtain rfl : _ = Value.int .i64 (m : Int):=hi.trans (by congr 1; omega)
   have hm : m < 4:=by omega
   go_wp2
   have c1:=hRX.cell hm
   have c2:=hRY.cell hm
   rcases Nat.lt_trichotomy (dg w64 X m) (dg w64 Y m) with h | h | h
   ·
    have hlt:=wd_cmp h
    have hne : (wd X m != wd Y m) = true:=by rw [bne_iff_ne]; omega
    have hc : cmpN X Y = -1:=by rw [cmp_high w64 X Y 4 m zam hX hY hm (fun j h1 h2 => HALL.out j (by omega) h2) (by omega),if_pos h]
    have HC:=veil hc
    clear hc
    go_quiet (fail)
    go_wp2
    go_quiet ((go_at_call 180; exact quiet_more (compare_lt _ _ hlt _)))
    go_wp2
    go_ret
    rw [HC.out]
    exact ⟨rfl,zar (zar hbel _) _⟩
   ·
    have hne : (wd X m != wd Y m) = false:=by unfold wd; rw [h]; simp
    go_quiet (fail)
    go_wp2
    go_roundw
    case rel => exact ⟨m,by omega,by go_num,fun j h1 h2 => by
     by_cases e : j = m
     ·
      rw [e]; exact h
     ·
      exact HALL.out j (by omega) h2,zbz hRX _,zbz hRY _,zar hbel _⟩
    case measure => simp [intOf]
   ·
    have hlt:=wd_cmp h
    have hne : (wd X m != wd Y m) = true:=by rw [bne_iff_ne]; omega
    have hc : cmpN X Y = 1:=by rw [cmp_high w64 X Y 4 m zam hX hY hm (fun j h1 h2 => HALL.out j (by omega) h2) (by omega),if_neg (by omega)]
    have HC:=veil hc
    clear hc
    go_quiet (fail)
    go_wp2
    go_quiet ((go_at_call 180; exact quiet_more (compare_gt _ _ hlt _)))
    go_wp2
    go_ret
    rw [HC.out]
    exact ⟨rfl,zar (zar hbel _) _⟩
theorem ret_u2' {a b c d : Int} (h : a = b) (h2 : c = d) : Ending.returned (.tuple #[vI vU a,vI vU c]) = .returned (.tuple #[vI vU b,vI vU d]):=by rw [h,h2]
theorem gadd_core (x y c : Int) (hx : 0 ≤ x) (hx2 : x ≤ 18446744073709551615) (hy : 0 ≤ y) (hy2 : y ≤ 18446744073709551615) (hc : 0 ≤ c) (hc2 : c ≤ 1) (w : World) :
  Calls Tryz.prog 120 #[vI vU x,vI vU y,vI vU c] w fun e w' => e = .returned (.tuple #[vI vU ((x + y + c) % 18446744073709551616),vI vU ((x + y + c) / 18446744073709551616)]) ∧ w' = w:=by
 obtain ⟨s,hs⟩ : ∃ s,s = (x + y) % 18446744073709551616:=⟨_,rfl⟩
 obtain ⟨t,ht⟩ : ∃ t,t = (s + c) % 18446744073709551616:=⟨_,rfl⟩
 have e1 : IntKind.u64.wrap (x + y) = s:=by rw [IntKind.wrap_u64,hs]
 have e2 : IntKind.u64.wrap (s + c) = t:=by rw [IntKind.wrap_u64,ht]
 have et : t = (x + y + c) % 18446744073709551616:=by omega
 have E:=veil et
 by_cases h1 : s < x
 ·
  have h2 : ¬ t < s:=by omega
  have eo : (x + y + c) / 18446744073709551616 = 1:=by omega
  have EO:=veil eo
  clear et eo hs ht hx hx2 hy hy2 hc hc2
  go_enter Tryz.func120,Tryz.ntmps120
  go_wp2
  go_ret2
  rw [EO.out,← E.out]
  exact ⟨ret_u2' (by first | rfl | (rw [e1,e2]) | (rw [e2])) rfl,rfl⟩
 ·
  by_cases h2 : t < s
  ·
   have eo : (x + y + c) / 18446744073709551616 = 1:=by omega
   have EO:=veil eo
   clear et eo hs ht hx hx2 hy hy2 hc hc2
   go_enter Tryz.func120,Tryz.ntmps120
   go_wp2
   go_ret2
   rw [EO.out,← E.out]
   exact ⟨ret_u2' (by first | rfl | (rw [e1,e2]) | (rw [e2])) rfl,rfl⟩
  ·
   have eo : (x + y + c) / 18446744073709551616 = 0:=by omega
   have EO:=veil eo
   clear et eo hs ht hx hx2 hy hy2 hc hc2
   go_enter Tryz.func120,Tryz.ntmps120
   go_wp2
   go_ret2
   rw [EO.out,← E.out]
   exact ⟨ret_u2' (by first | rfl | (rw [e1,e2]) | (rw [e2])) rfl,rfl⟩
theorem gadd_at (X Y k : Nat) (w : World) :
  Calls Tryz.prog 120 #[vI vU (wd X k),vI vU (wd Y k),vI vU (cyI X Y k)] w fun e w' => e = .returned (.tuple #[vI vU (wd (X + Y) k),vI vU (cyI X Y (k + 1))]) ∧ w = w':=by
 have hc:=cy_le zam X Y k
 have h:=gadd_core (wd X k) (wd Y k) (cyI X Y k) (wd_lo _ _) (wd_le _ _) (wd_lo _ _) (wd_le _ _) (by unfold cyI; omega) (by unfold cyI; omega) w
 have e1 : (wd X k + wd Y k + cyI X Y k) % 18446744073709551616 = wd (X + Y) k:=by
  unfold wd cyI; rw [dg_add zam]; unfold w64; simp
 have e2 : (wd X k + wd Y k + cyI X Y k) / 18446744073709551616 = cyI X Y (k + 1):=by
  unfold wd cyI; rw [cy_succ zam]; unfold w64; simp
 rw [e1,e2] at h
 exact h.mono fun _ _ ⟨a,b⟩ => ⟨a,b.symm⟩
theorem row_mix {X Z k : Nat} (_hk : k < 4) : ∀ i,i < 4 → (if i = k then Value.int .u64 (wd Z k) else Value.int .u64 (if i < k then wd Z i else wd X i)) = Value.int .u64 (if i < k + 1 then wd Z i else wd X i):=by
 intro i _
 by_cases h : i = k
 ·
  subst h; simp
 ·
  rw [if_neg h]; by_cases h2 : i < k
  ·
   rw [if_pos h2,if_pos (by omega)]
  ·
   rw [if_neg h2,if_neg (by omega)]
theorem cyI_one {X Y : Nat} (hX : X < top) (hY : Y < top) : (cyI X Y 4 == 1) = decide (top ≤ X + Y):=by
 unfold cyI
 rw [cy_top (n:=4) hX hY]
 show _ = decide (w64 ^ 4 ≤ X + Y)
 by_cases h : w64 ^ 4 ≤ X + Y <;> simp [h]
theorem plus_any (X Y : Nat) (hX : X < top) (hY : Y < top) (w : World) :
  Calls Tryz.prog 80 #[.agg #[vI vU (wd X 0),vI vU (wd X 1),vI vU (wd X 2),vI vU (wd X 3)],.agg #[vI vU (wd Y 0),vI vU (wd Y 1),vI vU (wd Y 2),vI vU (wd Y 3)]] w fun e w' => e = .returned (.tuple #[.agg #[vI vU (wd (X + Y) 0),vI vU (wd (X + Y) 1),vI vU (wd (X + Y) 2),vI vU (wd (X + Y) 3)],.bool (decide (top ≤ X + Y))]) ∧ Below w.heap.size w w':=by
 have HG:=veil (fun (k : Nat) (W : World) => gadd_at X Y k W)
 go_enter Tryz.func80,Tryz.ntmps80
 go_wp2
 go_loopw [6,7] (fun c i wr => ∃ k : Nat,k ≤ 4 ∧ i = .int .i64 k ∧ c = .int .u64 (cyI X Y k) ∧ wr.rowIs w.heap.size 58 4 (fun j => .int .u64 (if j < k then wd (X + Y) j else wd X j))
   ∧ wr.rowIs (w.heap.size + 1) 58 4 (fun j => .int .u64 (wd Y j)) ∧ wr.rowIs (w.heap.size + 1 + 1) 58 4 (fun _ => .int .u64 0) ∧ Below w.heap.size w wr)
  (fun _ i _ => 4 - (intOf i).toNat)
 case atStart => exact ⟨0,by omega,rfl,by simp [cyI,cy_zero],(((zah (n:=4) (by simp) rfl (arr4 fun j => .int .u64 (wd X j))).alloc _).alloc _).congr (fun j _ => by simp),(zah (n:=4) (by simp) rfl (arr4 fun j => .int .u64 (wd Y j))).alloc _,zah (n:=4) (by simp) rfl (arr4 fun _ => .int .u64 0),(((Below.refl _ _).alloc (by simp) _).alloc (by simp) _).alloc (by simp; omega) _⟩
 case round =>
  obtain ⟨k,hk,rfl,rfl,hRX,hRY,hRZ,hbel⟩:=hrel
  by_cases hlt : k < 4
  ·
   have c1:=hRX.cell hlt
   have c2:=hRY.cell hlt
   have f1:=hRX.frozen k
   rw [if_neg (by omega)] at c1
   go_wp2
   go_region_with (go_at_call 120; refine (HG.out _ _).mono ?_; rintro e w' ⟨rfl,rfl⟩)
   all_goals
    go_wp2
    go_roundw
    case rel => exact ⟨k + 1,by omega,by go_num,rfl,((hRX.set k _).congr (row_mix hlt)).drew,(zaq hRY (by omega) _).drew,(zaq hRZ (by omega) _).drew,(zag hbel (by omega) _).drew⟩
    case measure => simp [intOf]; omega
  ·
   obtain rfl : k = 4:=by omega
   obtain ⟨c0,c1,c2,c3⟩:=zak hRX
   obtain ⟨d0,d1,d2,d3⟩:=zak hRZ
   obtain ⟨f0,f1,f2,f3⟩:=zbi hRZ
   simp only [show (0 : Nat) < 4 from by omega,show (1 : Nat) < 4 from by omega,show (2 : Nat) < 4 from by omega,show (3 : Nat) < 4 from by omega,if_true] at c0 c1 c2 c3
   have hz:=cyI_one hX hY
   clear hRX hRY
   go_wp2
   refine bodyPost_ret (zcc rfl _ _ (w.heap.size + 1 + 1) 58 #[vI vU (wd (X + Y) 0),vI vU (wd (X + Y) 1),vI vU (wd (X + Y) 2),vI vU (wd (X + Y) 3)] (0,0) 4 56 rfl (blk4 (put4 hRZ fun j => .int .u64 (wd (X + Y) j))) Tryz.underlying58 (by kernel_rfl)) rfl ⟨?_,zas hbel (by omega) _ _ _ _⟩
   rfl
theorem zie (X Y : Nat) (hX : X < top) (hY : Y < top) (w : World) :
  Calls Tryz.prog 80 #[.agg #[vI vU (wd X 0),vI vU (wd X 1),vI vU (wd X 2),vI vU (wd X 3)],.agg #[vI vU (wd Y 0),vI vU (wd Y 1),vI vU (wd Y 2),vI vU (wd Y 3)]] w fun e w' => e = .returned (.tuple #[.agg #[vI vU (wd ((X + Y) % top) 0),vI vU (wd ((X + Y) % top) 1),vI vU (wd ((X + Y) % top) 2),vI vU (wd ((X + Y) % top) 3)],.bool (decide (top ≤ X + Y))]) ∧ Below w.heap.size w w':=by
 rw [zdw _ 0 (by omega),zdw _ 1 (by omega),zdw _ 2 (by omega),zdw _ 3 (by omega)]
 exact plus_any X Y hX hY w
theorem lt_high {X Y m : Nat} (hX : X < top) (hY : Y < top) (hm : m < 4) (h : ∀ j,m < j → j < 4 → dg w64 X j = dg w64 Y j) (hne : dg w64 X m ≠ dg w64 Y m) : decide (X < Y) = decide (wd X m < wd Y m):=by
 have hc:=cmp_high w64 X Y 4 m zam hX hY hm h hne
 unfold cmpN at hc
 unfold wd
 by_cases h1 : dg w64 X m < dg w64 Y m
 ·
  rw [if_pos h1] at hc
  by_cases h2 : X < Y
  ·
   simp [h1,h2]
  ·
   rw [if_neg h2] at hc; split at hc <;> omega
 ·
  rw [if_neg h1] at hc
  by_cases h2 : X < Y
  ·
   rw [if_pos h2] at hc; omega
  ·
   simp [h1,h2]
theorem less_calls (X Y : Nat) (hX : X < top) (hY : Y < top) (w : World) :
  Calls Tryz.prog 81 #[.agg #[vI vU (wd X 0),vI vU (wd X 1),vI vU (wd X 2),vI vU (wd X 3)],.agg #[vI vU (wd Y 0),vI vU (wd Y 1),vI vU (wd Y 2),vI vU (wd Y 3)]] w fun e w' => e = .returned (.bool (decide (X < Y))) ∧ Below w.heap.size w w':=by
 go_enter Tryz.func81,Tryz.ntmps81
 go_wp2
 go_loopw [5] (fun i wr => ∃ k : Nat,k ≤ 4 ∧ i = .int .i64 ((k : Int) - 1) ∧ (∀ j,k ≤ j → j < 4 → dg w64 X j = dg w64 Y j) ∧ wr.rowIs w.heap.size 58 4 (fun j => .int .u64 (wd X j))
   ∧ wr.rowIs (w.heap.size + 1) 58 4 (fun j => .int .u64 (wd Y j)) ∧ Below w.heap.size w wr)
  (fun i _ => (intOf i + 1).toNat)
 case atStart => exact ⟨4,by omega,rfl,by intro j h1 h2; omega,(zah (n:=4) (by simp) rfl (arr4 fun j => .int .u64 (wd X j))).alloc _,zah (n:=4) (by simp) rfl (arr4 fun j => .int .u64 (wd Y j)),((Below.refl _ _).alloc (by simp) _).alloc (by simp) _⟩
 case round =>
  obtain ⟨k,hk,hi,hall,hRX,hRY,hbel⟩:=hrel
  have HALL:=veil hall
  clear hall
  cases k with
  | zero =>
   subst hi
   have hXY : X = Y:=zgy zam hX hY fun j hj => HALL.out j (Nat.zero_le _) hj
   have HXY:=veil hXY
   clear hXY
   go_wp2
   go_ret
   rw [show decide (X < Y) = false by rw [HXY.out]; simp]
   exact ⟨rfl,hbel⟩
  | succ m =>
   obtain rfl : _ = Value.int .i64 (m : Int):=hi.trans (by congr 1; omega)
   have hm : m < 4:=by omega
   go_wp2
   have c1:=hRX.cell hm
   have c2:=hRY.cell hm
   by_cases h : dg w64 X m = dg w64 Y m
   ·
    have hne : (wd X m != wd Y m) = false:=by unfold wd; rw [h]; simp
    go_quiet (fail)
    go_wp2
    go_roundw
    case rel => exact ⟨m,by omega,by go_num,fun j h1 h2 => by
     by_cases e : j = m
     ·
      rw [e]; exact h
     ·
      exact HALL.out j (by omega) h2,zbz hRX _,zbz hRY _,zar hbel _⟩
    case measure => simp [intOf]
   ·
    have hne : (wd X m != wd Y m) = true:=by rw [bne_iff_ne]; unfold wd; omega
    have HC:=veil (lt_high hX hY hm (fun j h1 h2 => HALL.out j (by omega) h2) h)
    clear h
    go_quiet (fail)
    go_wp2
    go_quiet (fail)
    go_wp2
    go_ret
    rw [HC.out]
    exact ⟨rfl,zar (zar hbel _) _⟩
theorem dg_ones {B : Nat} (hB : 0 < B) (n i : Nat) (hi : i < n) : dg B (B ^ n - 1) i = B - 1:=by
 obtain ⟨d,rfl⟩ : ∃ d,n = i + (d + 1):=⟨n - i - 1,by omega⟩
 have hp : 0 < B ^ i:=Nat.pow_pos hB
 have hd : 0 < B ^ d:=Nat.pow_pos hB
 have e : B ^ (i + (d + 1)) - 1 = (B ^ i - 1) + B ^ i * (B ^ (d + 1) - 1):=by
  rw [Nat.pow_add,Nat.mul_sub,Nat.mul_one]
  have : B ^ i ≤ B ^ i * B ^ (d + 1):=Nat.le_mul_of_pos_right _ (Nat.pow_pos hB)
  omega
 have e2 : B ^ (d + 1) - 1 = (B - 1) + B * (B ^ d - 1):=by
  rw [Nat.pow_succ,Nat.mul_comm,Nat.mul_sub,Nat.mul_one]
  have : B ≤ B * B ^ d:=Nat.le_mul_of_pos_right _ hd
  omega
 unfold dg
 rw [e,Nat.add_mul_div_left _ _ hp,Nat.div_eq_of_lt (by omega),Nat.zero_add,e2,Nat.add_mul_mod_self_left,Nat.mod_eq_of_lt (by omega)]
theorem dg_comp {B : Nat} (hB : 0 < B) (Y n i : Nat) (hi : i < n) (hY : Y < B ^ n) : dg B (B ^ n - 1 - Y) i = B - 1 - dg B Y i:=by
 have h:=dg_sub hB (B ^ n - 1) Y n i hi (Nat.le_of_lt hY)
 have e : dg B (B ^ n - 1 + B ^ n - Y) i = dg B (B ^ n - 1 - Y) i:=by
  rw [show B ^ n - 1 + B ^ n - Y = (B ^ n - 1 - Y) + B ^ n by omega,← zcn _ n i hi,Nat.add_mod_right,zcn _ n i hi]
 have hb : bw B (B ^ n - 1) Y i = 0:=by
  have hp : 0 < B ^ i:=Nat.pow_pos hB
  unfold bw
  have e2 : (B ^ n - 1) % B ^ i = B ^ i - 1:=by
   obtain ⟨d,rfl⟩ : ∃ d,n = i + d:=⟨n - i,by omega⟩
   have : B ^ i ≤ B ^ i * B ^ d:=Nat.le_mul_of_pos_right _ (Nat.pow_pos hB)
   rw [Nat.pow_add,show B ^ i * B ^ d - 1 = (B ^ i - 1) + B ^ i * (B ^ d - 1) by rw [Nat.mul_sub,Nat.mul_one]; omega,Nat.add_mul_mod_self_left,Nat.mod_eq_of_lt (by omega)]
  have h1:=Nat.mod_lt Y hp
  rw [e2,if_neg (by omega)]
 have hl:=dg_lt hB Y i
 rw [e,hb,dg_ones hB n i hi] at h
 rw [h,Nat.mod_eq_sub_mod (by omega),Nat.mod_eq_of_lt (by omega)]
 omega
theorem wd_comp {Y i : Nat} (hY : Y < top) (hi : i < 4) : 18446744073709551615 - wd Y i = wd (top - 1 - Y) i:=by
 have h:=dg_comp zam Y 4 i hi hY
 have hl:=dg_lt zam Y i
 unfold wd top
 rw [h]
 unfold w64 at *
 omega
theorem minus_num {X Y : Nat} (hY : Y < top) : ((X + (top - 1 - Y)) % top + 1) % top = (X + top - Y) % top:=by
 rw [Nat.mod_add_mod,show X + (top - 1 - Y) + 1 = X + top - Y by omega]
theorem not_run {Y i : Nat} (hY : Y < top) (hi : i < 4) {T : TypeId} {A B : Operand} (W : World) : (binK .sub T A B (.int .u64 18446744073709551615) (.int .u64 (wd Y i))).run Tryz.prog W = .ok (.int .u64 (wd (top - 1 - Y) i)) W:=by
 have h0:=wd_lo Y i
 have h1:=wd_le Y i
 unfold binK
 rw [← wd_comp hY hi]
 simp [go_sem,eqGuard]
 exact IntWalk.u64_in _ (by omega)
section
variable {w0 : World} {Post : Value → World → Prop} {J : World → Prop}
def iNot {Y : Nat} (hY : Y < top) (i : Nat) (hi : i < 4) (r : OT Tryz.prog w0 Post J) : OT Tryz.prog w0 Post J :=
 .ins 16 (binK .sub 56 (.const (.int .u64 18446744073709551615)) (.tmp 15) (.int .u64 18446744073709551615) (.int .u64 (wd Y i))) (.int .u64 (wd (top - 1 - Y) i)) (fun W _ => not_run hY hi W) r
end
theorem minus_calls (X Y : Nat) (hX : X < top) (hY : Y < top) (w : World) :
  Calls Tryz.prog 82 #[.agg #[vI vU (wd X 0),vI vU (wd X 1),vI vU (wd X 2),vI vU (wd X 3)],.agg #[vI vU (wd Y 0),vI vU (wd Y 1),vI vU (wd Y 2),vI vU (wd Y 3)]] w fun e w' => e = .returned (.agg #[vI vU (wd ((X + top - Y) % top) 0),vI vU (wd ((X + top - Y) % top) 1),vI vU (wd ((X + top - Y) % top) 2),vI vU (wd ((X + top - Y) % top) 3)]) ∧ Below w.heap.size w w' :=
 have k:=zie X (top - 1 - Y) hX (by omega)
 have k2:=zie ((X + (top - 1 - Y)) % top) 1 (Nat.mod_lt _ zbh) (by decide)
 way1 Tryz.func82 [.agg #[vI vU (wd X 0),vI vU (wd X 1),vI vU (wd X 2),vI vU (wd X 3)],.agg #[vI vU (wd Y 0),vI vU (wd Y 1),vI vU (wd Y 2),vI vU (wd Y 3)]] (.unroll 5 <| iNot hY 0 (by decide) <| iNot hY 1 (by decide) <| iNot hY 2 (by decide) <| iNot hY 3 (by decide) <|
  .call _ _ _ (fun W _ => k W) <| .call _ _ _ (fun W _ => k2 W) <| .ret (.agg #[vI vU (wd (((X + (top - 1 - Y)) % top + 1) % top) 0),vI vU (wd (((X + (top - 1 - Y)) % top + 1) % top) 1),vI vU (wd (((X + (top - 1 - Y)) % top + 1) % top) 2),vI vU (wd (((X + (top - 1 - Y)) % top + 1) % top) 3)]) fun _ h => ⟨by rw [minus_num hY],h⟩) (by kernel_rfl)
theorem gsum_num {X Y M : Nat} (hX : X < M) (hY : Y < M) (hM : M ≤ top) : (X + Y) % M = if top ≤ X + Y ∨ ¬ (X + Y) % top < M then ((X + Y) % top + top - M) % top else (X + Y) % top:=by
 generalize top = t at *
 by_cases h : t ≤ X + Y
 ·
  rw [if_pos (Or.inl h),Nat.mod_eq_sub_mod (show t ≤ X + Y from h),Nat.mod_eq_of_lt (show X + Y - t < t by omega),show X + Y - t + t - M = X + Y - M by omega,Nat.mod_eq_of_lt (show X + Y - M < t by omega)]
  rw [Nat.mod_eq_sub_mod (by omega),Nat.mod_eq_of_lt (by omega)]
 ·
  rw [Nat.mod_eq_of_lt (show X + Y < t by omega)]
  by_cases h2 : X + Y < M
  ·
   rw [if_neg (by omega),Nat.mod_eq_of_lt h2]
  ·
   rw [if_pos (Or.inr h2),Nat.mod_eq_sub_mod (show M ≤ X + Y by omega),Nat.mod_eq_of_lt (show X + Y - M < M by omega),show X + Y + t - M = (X + Y - M) + t by omega,Nat.add_mod_right,Nat.mod_eq_of_lt (by omega)]
theorem zhn (X Y Z : Nat) (u : Bool) (h : (X + Y) % top = Z) (h2 : decide (top ≤ X + Y) = u) (hX : X < top) (hY : Y < top) (w : World) :
  Calls Tryz.prog 80 #[.agg #[vI vU (wd X 0),vI vU (wd X 1),vI vU (wd X 2),vI vU (wd X 3)],.agg #[vI vU (wd Y 0),vI vU (wd Y 1),vI vU (wd Y 2),vI vU (wd Y 3)]] w fun e w' => e = .returned (.tuple #[.agg #[vI vU (wd Z 0),vI vU (wd Z 1),vI vU (wd Z 2),vI vU (wd Z 3)],.bool u]) ∧ Below w.heap.size w w':=by
 subst h; subst h2; exact zie X Y hX hY w
theorem zew (X Y : Nat) (u : Bool) (h : decide (X < Y) = u) (hX : X < top) (hY : Y < top) (w : World) :
  Calls Tryz.prog 81 #[.agg #[vI vU (wd X 0),vI vU (wd X 1),vI vU (wd X 2),vI vU (wd X 3)],.agg #[vI vU (wd Y 0),vI vU (wd Y 1),vI vU (wd Y 2),vI vU (wd Y 3)]] w fun e w' => e = .returned (.bool u) ∧ Below w.heap.size w w':=by
 subst h; exact less_calls X Y hX hY w
theorem zfk (X Y Z : Nat) (h : (X + top - Y) % top = Z) (hX : X < top) (hY : Y < top) (w : World) :
  Calls Tryz.prog 82 #[.agg #[vI vU (wd X 0),vI vU (wd X 1),vI vU (wd X 2),vI vU (wd X 3)],.agg #[vI vU (wd Y 0),vI vU (wd Y 1),vI vU (wd Y 2),vI vU (wd Y 3)]] w fun e w' => e = .returned (.agg #[vI vU (wd Z 0),vI vU (wd Z 1),vI vU (wd Z 2),vI vU (wd Z 3)]) ∧ Below w.heap.size w w':=by
 subst h; exact minus_calls X Y hX hY w
theorem gadd_over (X Y M S D : Nat) (hX : X < top) (hY : Y < top) (hM : M < top) (hS : (X + Y) % top = S) (hu : decide (top ≤ X + Y) = true) (hD : (S + top - M) % top = D) (w : World) :
  Calls Tryz.prog 52 #[.agg #[vI vU (wd X 0),vI vU (wd X 1),vI vU (wd X 2),vI vU (wd X 3)],.agg #[vI vU (wd Y 0),vI vU (wd Y 1),vI vU (wd Y 2),vI vU (wd Y 3)],.agg #[vI vU (wd M 0),vI vU (wd M 1),vI vU (wd M 2),vI vU (wd M 3)]] w fun e w' => e = .returned (.agg #[vI vU (wd D 0),vI vU (wd D 1),vI vU (wd D 2),vI vU (wd D 3)]) ∧ Below w.heap.size w w':=by
 have k:=veil (And.intro (fun W => zhn X Y S true hS hu hX hY W) (fun W => zfk S M D hD (by rw [← hS]; exact Nat.mod_lt _ zbh) hM W))
 clear hX hY hM hS hu hD
 exact way1 Tryz.func52 [.agg #[vI vU (wd X 0),vI vU (wd X 1),vI vU (wd X 2),vI vU (wd X 3)],.agg #[vI vU (wd Y 0),vI vU (wd Y 1),vI vU (wd Y 2),vI vU (wd Y 3)],.agg #[vI vU (wd M 0),vI vU (wd M 1),vI vU (wd M 2),vI vU (wd M 3)]] (.call _ _ _ (fun W _ => k.out.1 W) <| .call _ _ _ (fun W _ => k.out.2 W) <| .ret _ fun _ h => ⟨rfl,h⟩) (by kernel_rfl)
theorem gadd_less (X Y M S : Nat) (hX : X < top) (hY : Y < top) (hM : M < top) (hS : (X + Y) % top = S) (hu : decide (top ≤ X + Y) = false) (hl : decide (S < M) = true) (w : World) :
  Calls Tryz.prog 52 #[.agg #[vI vU (wd X 0),vI vU (wd X 1),vI vU (wd X 2),vI vU (wd X 3)],.agg #[vI vU (wd Y 0),vI vU (wd Y 1),vI vU (wd Y 2),vI vU (wd Y 3)],.agg #[vI vU (wd M 0),vI vU (wd M 1),vI vU (wd M 2),vI vU (wd M 3)]] w fun e w' => e = .returned (.agg #[vI vU (wd S 0),vI vU (wd S 1),vI vU (wd S 2),vI vU (wd S 3)]) ∧ Below w.heap.size w w':=by
 have k:=veil (And.intro (fun W => zhn X Y S false hS hu hX hY W) (fun W => zew S M true hl (by rw [← hS]; exact Nat.mod_lt _ zbh) hM W))
 clear hX hY hM hS hu hl
 exact way1 Tryz.func52 [.agg #[vI vU (wd X 0),vI vU (wd X 1),vI vU (wd X 2),vI vU (wd X 3)],.agg #[vI vU (wd Y 0),vI vU (wd Y 1),vI vU (wd Y 2),vI vU (wd Y 3)],.agg #[vI vU (wd M 0),vI vU (wd M 1),vI vU (wd M 2),vI vU (wd M 3)]] (.call _ _ _ (fun W _ => k.out.1 W) <| .call _ _ _ (fun W _ => k.out.2 W) <| .ret _ fun _ h => ⟨rfl,h⟩) (by kernel_rfl)
theorem gadd_more (X Y M S D : Nat) (hX : X < top) (hY : Y < top) (hM : M < top) (hS : (X + Y) % top = S) (hu : decide (top ≤ X + Y) = false) (hl : decide (S < M) = false) (hD : (S + top - M) % top = D) (w : World) :
  Calls Tryz.prog 52 #[.agg #[vI vU (wd X 0),vI vU (wd X 1),vI vU (wd X 2),vI vU (wd X 3)],.agg #[vI vU (wd Y 0),vI vU (wd Y 1),vI vU (wd Y 2),vI vU (wd Y 3)],.agg #[vI vU (wd M 0),vI vU (wd M 1),vI vU (wd M 2),vI vU (wd M 3)]] w fun e w' => e = .returned (.agg #[vI vU (wd D 0),vI vU (wd D 1),vI vU (wd D 2),vI vU (wd D 3)]) ∧ Below w.heap.size w w':=by
 have hSt : S < top:=by rw [← hS]; exact Nat.mod_lt _ zbh
 have k:=veil (And.intro (fun W => zhn X Y S false hS hu hX hY W) (And.intro (fun W => zew S M false hl hSt hM W) (fun W => zfk S M D hD hSt hM W)))
 clear hX hY hM hS hu hl hSt hD
 exact way1 Tryz.func52 [.agg #[vI vU (wd X 0),vI vU (wd X 1),vI vU (wd X 2),vI vU (wd X 3)],.agg #[vI vU (wd Y 0),vI vU (wd Y 1),vI vU (wd Y 2),vI vU (wd Y 3)],.agg #[vI vU (wd M 0),vI vU (wd M 1),vI vU (wd M 2),vI vU (wd M 3)]] (.call _ _ _ (fun W _ => k.out.1 W) <| .call _ _ _ (fun W _ => k.out.2.1 W) <| .call _ _ _ (fun W _ => k.out.2.2 W) <| .ret _ fun _ h => ⟨rfl,h⟩) (by kernel_rfl)
theorem zit (X Y M : Nat) (hX : X < M) (hY : Y < M) (hM : M < top) (w : World) :
  Calls Tryz.prog 52 #[.agg #[vI vU (wd X 0),vI vU (wd X 1),vI vU (wd X 2),vI vU (wd X 3)],.agg #[vI vU (wd Y 0),vI vU (wd Y 1),vI vU (wd Y 2),vI vU (wd Y 3)],.agg #[vI vU (wd M 0),vI vU (wd M 1),vI vU (wd M 2),vI vU (wd M 3)]] w fun e w' => e = .returned (.agg #[vI vU (wd ((X + Y) % M) 0),vI vU (wd ((X + Y) % M) 1),vI vU (wd ((X + Y) % M) 2),vI vU (wd ((X + Y) % M) 3)]) ∧ Below w.heap.size w w':=by
 have h:=gsum_num hX hY (Nat.le_of_lt hM)
 by_cases h1 : top ≤ X + Y
 ·
  rw [h,if_pos (Or.inl h1)]
  exact gadd_over X Y M _ _ (by omega) (by omega) hM rfl (by simpa using h1) rfl w
 ·
  by_cases h2 : (X + Y) % top < M
  ·
   rw [h,if_neg (by omega)]
   exact gadd_less X Y M _ (by omega) (by omega) hM rfl (by simpa using h1) (by simpa using h2) w
  ·
   rw [h,if_pos (Or.inr h2)]
   exact gadd_more X Y M _ _ (by omega) (by omega) hM rfl (by simpa using h1) (by simpa using h2) rfl w
theorem gsub_lo (X Y M D S : Nat) (hX : X < top) (hY : Y < top) (hM : M < top) (hl : decide (X < Y) = true) (hD : (X + top - Y) % top = D) (hS : (D + M) % top = S) (w : World) :
  Calls Tryz.prog 83 #[.agg #[vI vU (wd X 0),vI vU (wd X 1),vI vU (wd X 2),vI vU (wd X 3)],.agg #[vI vU (wd Y 0),vI vU (wd Y 1),vI vU (wd Y 2),vI vU (wd Y 3)],.agg #[vI vU (wd M 0),vI vU (wd M 1),vI vU (wd M 2),vI vU (wd M 3)]] w fun e w' => e = .returned (.agg #[vI vU (wd S 0),vI vU (wd S 1),vI vU (wd S 2),vI vU (wd S 3)]) ∧ Below w.heap.size w w':=by
 have k:=veil (And.intro (fun W => zew X Y true hl hX hY W) (And.intro (fun W => zfk X Y D hD hX hY W) (fun W => zhn D M S _ hS rfl (by rw [← hD]; exact Nat.mod_lt _ zbh) hM W)))
 clear hX hY hM hl hD hS
 exact way1 Tryz.func83 [.agg #[vI vU (wd X 0),vI vU (wd X 1),vI vU (wd X 2),vI vU (wd X 3)],.agg #[vI vU (wd Y 0),vI vU (wd Y 1),vI vU (wd Y 2),vI vU (wd Y 3)],.agg #[vI vU (wd M 0),vI vU (wd M 1),vI vU (wd M 2),vI vU (wd M 3)]] (.call _ _ _ (fun W _ => k.out.1 W) <| .call _ _ _ (fun W _ => k.out.2.1 W) <| .call _ _ _ (fun W _ => k.out.2.2 W) <| .ret _ fun _ h => ⟨rfl,h⟩) (by kernel_rfl)
theorem gsub_hi (X Y M D : Nat) (hX : X < top) (hY : Y < top) (hl : decide (X < Y) = false) (hD : (X + top - Y) % top = D) (w : World) :
  Calls Tryz.prog 83 #[.agg #[vI vU (wd X 0),vI vU (wd X 1),vI vU (wd X 2),vI vU (wd X 3)],.agg #[vI vU (wd Y 0),vI vU (wd Y 1),vI vU (wd Y 2),vI vU (wd Y 3)],.agg #[vI vU (wd M 0),vI vU (wd M 1),vI vU (wd M 2),vI vU (wd M 3)]] w fun e w' => e = .returned (.agg #[vI vU (wd D 0),vI vU (wd D 1),vI vU (wd D 2),vI vU (wd D 3)]) ∧ Below w.heap.size w w':=by
 have k:=veil (And.intro (fun W => zew X Y false hl hX hY W) (fun W => zfk X Y D hD hX hY W))
 clear hX hY hl hD
 exact way1 Tryz.func83 [.agg #[vI vU (wd X 0),vI vU (wd X 1),vI vU (wd X 2),vI vU (wd X 3)],.agg #[vI vU (wd Y 0),vI vU (wd Y 1),vI vU (wd Y 2),vI vU (wd Y 3)],.agg #[vI vU (wd M 0),vI vU (wd M 1),vI vU (wd M 2),vI vU (wd M 3)]] (.call _ _ _ (fun W _ => k.out.1 W) <| .call _ _ _ (fun W _ => k.out.2 W) <| .ret _ fun _ h => ⟨rfl,h⟩) (by kernel_rfl)
theorem zis (X Y M : Nat) (hX : X < M) (hY : Y < M) (hM : M < top) (w : World) :
  Calls Tryz.prog 83 #[.agg #[vI vU (wd X 0),vI vU (wd X 1),vI vU (wd X 2),vI vU (wd X 3)],.agg #[vI vU (wd Y 0),vI vU (wd Y 1),vI vU (wd Y 2),vI vU (wd Y 3)],.agg #[vI vU (wd M 0),vI vU (wd M 1),vI vU (wd M 2),vI vU (wd M 3)]] w fun e w' => e = .returned (.agg #[vI vU (wd ((X + M - Y) % M) 0),vI vU (wd ((X + M - Y) % M) 1),vI vU (wd ((X + M - Y) % M) 2),vI vU (wd ((X + M - Y) % M) 3)]) ∧ Below w.heap.size w w':=by
 by_cases h : X < Y
 ·
  exact gsub_lo X Y M _ _ (by omega) (by omega) hM (by simpa using h) rfl (by rw [Nat.mod_eq_of_lt (a:=X + top - Y) (by omega),show X + top - Y + M = (X + M - Y) + top by omega,Nat.add_mod_right,Nat.mod_eq_of_lt (by omega),Nat.mod_eq_of_lt (by omega)]) w
 ·
  exact gsub_hi X Y M _ (by omega) (by omega) (by simpa using h) (by rw [show X + top - Y = (X - Y) + top by omega,Nat.add_mod_right,show X + M - Y = (X - Y) + M by omega,Nat.add_mod_right,Nat.mod_eq_of_lt (by omega),Nat.mod_eq_of_lt (by omega)]) w
def mw (Y i k : Nat) : Nat:=dg w64 Y i * 2 ^ k % 2 ^ 64
theorem mw_zero (Y i : Nat) : mw Y i 0 = dg w64 Y i:=by
 have:=dg_lt zam Y i
 unfold mw; rw [Nat.pow_zero,Nat.mul_one]; exact Nat.mod_eq_of_lt this
theorem mw_succ (Y i k : Nat) : (mw Y i k + mw Y i k) % 18446744073709551616 = mw Y i (k + 1):=by
 unfold mw
 show _ % 2 ^ 64 = _
 rw [← Nat.add_mod,Nat.pow_succ 2 k,← Nat.mul_assoc,Nat.mul_two]
theorem mw_top (Y i k : Nat) (hk : k < 64) : 9223372036854775808 ≤ mw Y i k ↔ Y / 2 ^ (64 * i + (63 - k)) % 2 = 1:=by
 unfold mw dg
 obtain ⟨j,hj⟩ : ∃ j,j = 63 - k:=⟨_,rfl⟩
 have e64 : (2 : Nat) ^ 64 = 2 ^ (j + 1) * 2 ^ k:=by rw [← Nat.pow_add]; congr 1; omega
 have e63 : (9223372036854775808 : Nat) = 2 ^ j * 2 ^ k:=by rw [← Nat.pow_add,show j + k = 63 by omega]
 have hp : 0 < 2 ^ k:=Nat.pow_pos (by omega)
 have hq : 0 < 2 ^ j:=Nat.pow_pos (by omega)
 have ew : w64 ^ i = 2 ^ (64 * i):=by unfold w64; rw [show (18446744073709551616 : Nat) = 2 ^ 64 from rfl,← Nat.pow_mul]
 rw [ew,← hj,e64,e63,Nat.mul_mod_mul_right]
 rw [Nat.pow_add 2 (64 * i),← Nat.div_div_eq_div_mul]
 generalize Y / 2 ^ (64 * i) = a
 have h1 : a % w64 % 2 ^ (j + 1) = a % 2 ^ (j + 1):=by
  apply Nat.mod_mod_of_dvd
  unfold w64; rw [show (18446744073709551616 : Nat) = 2 ^ (j + 1) * 2 ^ k from e64]
  exact Nat.dvd_mul_right _ _
 rw [h1,Nat.pow_succ,Nat.mod_mul]
 have h2:=Nat.mod_lt a hq
 generalize a / 2 ^ j = c
 generalize a % 2 ^ j = d at *
 generalize 2 ^ j = p at *
 generalize 2 ^ k = q at *
 constructor
 ·
  intro h
  have h3:=Nat.le_of_mul_le_mul_right h hp
  have : c % 2 = 0 ∨ c % 2 = 1:=by omega
  rcases this with e | e
  ·
   rw [e] at h3; omega
  ·
   exact e
 ·
  intro h
  rw [h]
  exact Nat.mul_le_mul_right _ (by omega)
theorem bits_step (Y n : Nat) : Y / 2 ^ n = 2 * (Y / 2 ^ (n + 1)) + Y / 2 ^ n % 2:=by
 rw [Nat.pow_succ,← Nat.div_div_eq_div_mul]; omega
def acc (X Y M n : Nat) : Nat:=X * (Y / 2 ^ n) % M
theorem acc_lt {X Y M n : Nat} (h : 0 < M) : acc X Y M n < M:=Nat.mod_lt _ h
theorem acc_twice (X Y M n : Nat) (h : Y / 2 ^ n % 2 = 0) : (acc X Y M (n + 1) + acc X Y M (n + 1)) % M = acc X Y M n:=by
 unfold acc
 rw [bits_step Y n,h,← Nat.add_mod]
 congr 1
 generalize Y / 2 ^ (n + 1) = q
 rw [Nat.add_zero,Nat.mul_left_comm]; omega
theorem acc_more (X Y M n : Nat) (h : Y / 2 ^ n % 2 = 1) : ((acc X Y M (n + 1) + acc X Y M (n + 1)) % M + X) % M = acc X Y M n:=by
 unfold acc
 rw [bits_step Y n,h,← Nat.add_mod,Nat.mod_add_mod]
 congr 1
 rw [Nat.mul_add,Nat.mul_left_comm,Nat.mul_one]; omega
theorem acc_start (X Y M n : Nat) (h : Y < 2 ^ n) : acc X Y M n = 0:=by
 unfold acc; rw [Nat.div_eq_of_lt h]; simp
theorem acc_end (X Y M : Nat) : acc X Y M 0 = X * Y % M:=by
 unfold acc; simp
theorem num_wide (X : Nat) (h : X < top) : wd X 4 = 0 ∧ wd X 5 = 0 ∧ wd X 6 = 0 ∧ wd X 7 = 0:=by
 have e : ∀ i,4 ≤ i → wd X i = 0:=by
  intro i hi
  unfold wd dg
  rw [Nat.div_eq_of_lt (Nat.lt_of_lt_of_le h (Nat.pow_le_pow_right zam hi))]; rfl
 exact ⟨e 4 (by omega),e 5 (by omega),e 6 (by omega),e 7 (by omega)⟩
theorem gword_more {X Y M k a b c : Nat} (h : a ≤ 64 ∧ b = mw Y k a ∧ c = acc X Y M (64 * (k + 1) - a)) (hl : a < 64) (hb : 9223372036854775808 ≤ b) :
  a + 1 ≤ 64 ∧ (b + b) % 18446744073709551616 = mw Y k (a + 1) ∧ ((c + c) % M + X) % M = acc X Y M (64 * (k + 1) - (a + 1)):=by
 obtain ⟨_,rfl,rfl⟩:=h
 refine ⟨hl,mw_succ Y k a,?_⟩
 rw [show 64 * (k + 1) - a = 64 * k + (63 - a) + 1 by omega,show 64 * (k + 1) - (a + 1) = 64 * k + (63 - a) by omega]
 exact acc_more X Y M _ ((mw_top Y k a hl).1 hb)
theorem gword_less {X Y M k a b c : Nat} (h : a ≤ 64 ∧ b = mw Y k a ∧ c = acc X Y M (64 * (k + 1) - a)) (hl : a < 64) (hb : ¬ 9223372036854775808 ≤ b) :
  a + 1 ≤ 64 ∧ (b + b) % 18446744073709551616 = mw Y k (a + 1) ∧ (c + c) % M = acc X Y M (64 * (k + 1) - (a + 1)):=by
 obtain ⟨_,rfl,rfl⟩:=h
 refine ⟨hl,mw_succ Y k a,?_⟩
 rw [show 64 * (k + 1) - a = 64 * k + (63 - a) + 1 by omega,show 64 * (k + 1) - (a + 1) = 64 * k + (63 - a) by omega]
 exact acc_twice X Y M _ ((Nat.mod_two_eq_zero_or_one _).resolve_right fun e => hb ((mw_top Y k a hl).2 e))
section
variable {w0 : World} {Post : Value → World → Prop} {J : World → Prop}
def gword (d wv kv : Nat) (T0 : List (Nat × SV)) (M0 : Nat → List Blk) (X Y M k : Nat) (hX : X < M) (hM : M < top) (V : Nat) (hV : V = acc X Y M (64 * (k + 1))) (r : ∀ V,V = acc X Y M (64 * k) → OT Tryz.prog w0 Post J) : OT Tryz.prog w0 Post J :=
 .loop (fun l => (wv,.v (.int .u64 (l 1 : Int))) :: (kv,.v (.int .i64 (l 0 : Int))) :: T0) (fun l => M0 (l 2)) (fun l => 64 - l 0) (fun l => l 0 ≤ 64 ∧ l 1 = mw Y k (l 0) ∧ l 2 = acc X Y M (64 * (k + 1) - l 0)) (lst [0,dg w64 Y k,V])
  ⟨Nat.zero_le _,(mw_zero Y k).symm,hV⟩ fun l h =>
 .cases (l 0 < 64)
  (fun hl => .ins (19 + d) (binK .lss 3 (.tmp (18 + d)) (.const (.int .i64 64)) (.int .i64 (l 0 : Int)) (.int .i64 64)) (.bool true) (fun _ _ => lssi_run (by omega)) <|
   .call _ _ _ (fun W _ => zit (l 2) (l 2) M (by rw [h.2.2]; exact acc_lt (by omega)) (by rw [h.2.2]; exact acc_lt (by omega)) hM W) <|
   .cases (9223372036854775808 ≤ l 1)
    (fun hb => .ins (27 + d) (binK .geq 56 (.tmp (26 + d)) (.const (.int .u64 9223372036854775808)) (.int .u64 (l 1 : Int)) (.int .u64 9223372036854775808)) (.bool true) (fun _ _ => high_run (decide_eq_true hb)) <|
     .call _ _ _ (fun W _ => zit ((l 2 + l 2) % M) X M (Nat.mod_lt _ (by omega)) hX hM W) <|
     .ins (34 + d) (binK .add 56 (.tmp (32 + d)) (.tmp (33 + d)) (.int .u64 (l 1 : Int)) (.int .u64 (l 1 : Int))) (.int .u64 (((l 1 + l 1) % 18446744073709551616 : Nat) : Int)) (fun _ _ => dbl_run) <|
     .ins (21 + d) (binK .add 3 (.tmp (20 + d)) (.const (.int .i64 1)) (.int .i64 (l 0 : Int)) (.int .i64 1)) (.int .i64 ((l 0 + 1 : Nat) : Int)) (fun _ _ => inc_run (by omega)) <|
     .next (lst [l 0 + 1,(l 1 + l 1) % 18446744073709551616,((l 2 + l 2) % M + X) % M]) _ (And.intro (gword_more h hl hb) (show 64 - (l 0 + 1) < 64 - l 0 by omega)))
    (fun hb => .ins (27 + d) (binK .geq 56 (.tmp (26 + d)) (.const (.int .u64 9223372036854775808)) (.int .u64 (l 1 : Int)) (.int .u64 9223372036854775808)) (.bool false) (fun _ _ => high_run (decide_eq_false hb)) <|
     .ins (34 + d) (binK .add 56 (.tmp (32 + d)) (.tmp (33 + d)) (.int .u64 (l 1 : Int)) (.int .u64 (l 1 : Int))) (.int .u64 (((l 1 + l 1) % 18446744073709551616 : Nat) : Int)) (fun _ _ => dbl_run) <|
     .ins (21 + d) (binK .add 3 (.tmp (20 + d)) (.const (.int .i64 1)) (.int .i64 (l 0 : Int)) (.int .i64 1)) (.int .i64 ((l 0 + 1 : Nat) : Int)) (fun _ _ => inc_run (by omega)) <|
     .next (lst [l 0 + 1,(l 1 + l 1) % 18446744073709551616,(l 2 + l 2) % M]) _ (And.intro (gword_less h hl hb) (show 64 - (l 0 + 1) < 64 - l 0 by omega))))
  (fun hl => .ins (19 + d) (binK .lss 3 (.tmp (18 + d)) (.const (.int .i64 64)) (.int .i64 (l 0 : Int)) (.int .i64 64)) (.bool false) (fun _ _ => lss_run (decide_eq_false (by omega))) <|
   r (l 2) (by rw [h.2.2,show 64 * (k + 1) - l 0 = 64 * k by omega]))
end
theorem gmul_calls (X Y M : Nat) (hX : X < M) (hY : Y < top) (hM : M < top) (w : World) :
  Calls Tryz.prog 79 #[.agg #[vI vU (wd X 0),vI vU (wd X 1),vI vU (wd X 2),vI vU (wd X 3)],.agg #[vI vU (wd Y 0),vI vU (wd Y 1),vI vU (wd Y 2),vI vU (wd Y 3)],.agg #[vI vU (wd M 0),vI vU (wd M 1),vI vU (wd M 2),vI vU (wd M 3)]] w fun e w' => e = .returned (.agg #[vI vU (wd (X * Y % M) 0),vI vU (wd (X * Y % M) 1),vI vU (wd (X * Y % M) 2),vI vU (wd (X * Y % M) 3)]) ∧ Below w.heap.size w w' :=
 let T0 (k : Int) : List (Nat × SV):=[(3,.p 0 0),(4,.p 1 0),(5,.p 2 0),(6,.p 3 0),(7,.p 4 0),(8,.v (.int .i64 k))]
 let M0 (V : Nat) : List Blk:=[⟨58,cN X⟩,⟨58,cN Y⟩,⟨58,cN M⟩,⟨58,cZ⟩,⟨58,cN V⟩]
 way1 Tryz.func79 [.agg #[vI vU (wd X 0),vI vU (wd X 1),vI vU (wd X 2),vI vU (wd X 3)],.agg #[vI vU (wd Y 0),vI vU (wd Y 1),vI vU (wd Y 2),vI vU (wd Y 3)],.agg #[vI vU (wd M 0),vI vU (wd M 1),vI vU (wd M 2),vI vU (wd M 3)]] (.unroll 5 <| gword 0 9 10 (T0 3) M0 X Y M 3 hX hM 0 (acc_start X Y M _ hY).symm fun V h => gword 0 9 10 (T0 2) M0 X Y M 2 hX hM V h fun V h => gword 0 9 10 (T0 1) M0 X Y M 1 hX hM V h fun V h => gword 0 9 10 (T0 0) M0 X Y M 0 hX hM V h fun V h =>
  .ret (.agg #[vI vU (wd V 0),vI vU (wd V 1),vI vU (wd V 2),vI vU (wd V 3)]) fun _ hW => ⟨by rw [h,Nat.mul_zero,acc_end],hW⟩) (by kernel_rfl)
end Go.Proofs.YtbfkecfcolcclaaGreatDoor
