/-
  Of Eql C0 Of Cq Add Sub Cmp G1 G2.
-/
import Derived.Test.YtedehdbajiaaiaaGreatDoorRows
import Derived.WalkKit
import Derived.ChangeKeysEq
import Derived.WalkSpells
import Derived.WalkLawsBesides
import Derived.Deep.LoopGhost
import Derived.Deep.RegionWith
import Derived.Deep.QuietTactic
import Derived.BigQuiet
import Derived.BigRegion
import Derived.Deep.CutRange
import Derived.Deep.RegionHeld3
import Derived.Test.YtedehdbajiaaiaaGreatDoorZB1
import Derived.Test.YtedehdbajiaaiaaGreatDoorZB2
set_option maxRecDepth 1000000
set_option maxHeartbeats 20000000
namespace Go.Proofs.YtedehdbajiaaiaaGreatDoor
open Go.RowKit
open Go.Value renaming int → vI
open Go.IntKind renaming u64 → vU
open Go.Act renaming put → aP
open List renaming setIfInBounds_toArray → lA, set_cons_zero → lZ, set_cons_succ → lS
theorem run_items (d : Nat) (xs ys : Array Value) (A B : Nat → Int) (w : World) : ∀ is : List Nat,(∀ i ∈ is,xs[i]? = some (vI vU (A i))) → (∀ i ∈ is,ys[i]? = some (vI vU (B i))) →
  (Op.eqItems (d + 1) 24 1 xs ys is).run Tryz.prog w = .ok (is.all fun i => A i == B i) w
 | [],_,_ => by simp [Op.eqItems]
 | i :: is,hx,hy => by
  have e1:=run_part_plain (P:=Tryz.prog) w (e:=24) (by kernel_rfl) (xs:=xs) (off:=i * 1) (v:=.int .u64 (A i)) (by rw [Nat.mul_one]; exact hx i (by simp))
  have e2:=run_part_plain (P:=Tryz.prog) w (e:=24) (by kernel_rfl) (xs:=ys) (off:=i * 1) (v:=.int .u64 (B i)) (by rw [Nat.mul_one]; exact hy i (by simp))
  have e3:=run_equalIn_int (P:=Tryz.prog) w d 24 .u64 .u64 (A i) (B i) Tryz.underlying24
  have ih:=run_items d xs ys A B w is (fun j hj => hx j (by simp [hj])) (fun j hj => hy j (by simp [hj]))
  simp only [Op.eqItems,Sem.run_bind,e1,e2,e3,Result.andThen_ok]
  by_cases h : A i = B i
  ·
   simp [h,ih]
  ·
   simp [h]
theorem eql4 (f g : Nat → Int) (w : World) : (binOp .eql 26 (.agg #[vI vU (f 0),vI vU (f 1),vI vU (f 2),vI vU (f 3)]) (.agg #[vI vU (g 0),vI vU (g 1),vI vU (g 2),vI vU (g 3)])).run Tryz.prog w = .ok (.bool ((List.range 4).all fun i => f i == g i)) w:=by
 obtain ⟨i,hi⟩ : ∃ i,Tryz.prog.info? 24 = some i:=Option.isSome_iff_exists.1 (by kernel_rfl)
 have hc : Tryz.prog.cellsOf 24 = 1:=by kernel_rfl
 rw [run_eql_struct,run_equalIn_array (P:=Tryz.prog) w 9999 _ _ Tryz.underlying26 hi,hc]
 rw [run_items 9998 _ _ f g w _ (fun j hj => arr4 (fun j => .int .u64 (f j)) j (by simpa using hj)) (fun j hj => arr4 (fun j => .int .u64 (g j)) j (by simpa using hj))]
 rfl
theorem all_wd (n X Y : Nat) : ((List.range n).all fun i => wd X i == wd Y i) = decide (X % w64 ^ n = Y % w64 ^ n):=by
 rw [Bool.eq_iff_iff]
 simp only [List.all_eq_true,List.mem_range,beq_iff_eq,decide_eq_true_eq]
 constructor
 ·
  intro h
  exact zkc zbc n fun i hi => by have:=h i hi; unfold wd at this; omega
 ·
  intro h i hi
  unfold wd
  rw [← zdi X n i hi,← zdi Y n i hi,h]
theorem zkb {X Y : Nat} (hX : X < top) (hY : Y < top) (w : World) : (binOp .eql 26 (.agg #[vI vU (wd X 0),vI vU (wd X 1),vI vU (wd X 2),vI vU (wd X 3)]) (.agg #[vI vU (wd Y 0),vI vU (wd Y 1),vI vU (wd Y 2),vI vU (wd Y 3)])).run Tryz.prog w = .ok (.bool (decide (X = Y))) w:=by
 have h:=eql4 (wd X) (wd Y) w
 rw [all_wd 4 X Y] at h
 have e : (X % w64 ^ 4 = Y % w64 ^ 4) = (X = Y):=by rw [Nat.mod_eq_of_lt (show X < w64 ^ 4 from hX),Nat.mod_eq_of_lt (show Y < w64 ^ 4 from hY)]
 simpa [e] using h
theorem eql_num_same (X : Nat) (w : World) : (binOp .eql 26 (.agg #[vI vU (wd X 0),vI vU (wd X 1),vI vU (wd X 2),vI vU (wd X 3)]) (.agg #[vI vU (wd X 0),vI vU (wd X 1),vI vU (wd X 2),vI vU (wd X 3)])).run Tryz.prog w = .ok (.bool true) w:=by
 have h:=eql4 (wd X) (wd X) w
 rw [all_wd 4 X X] at h
 simpa using h
theorem infoN4 : (Tryz.prog.info? 26).map (·.size) = some 4:=by kernel_rfl
def nc (x : Nat) : Array Value:=#[vI vU (wd x 0),vI vU (wd x 1),vI vU (wd x 2),vI vU (wd x 3)]
def nv (x : Nat) : Value:=.agg (nc x)
theorem zbd (x : Nat) : (nc x).all (·.oneCell') = true:=by simp [nc,Value.oneCell']
theorem iN (x : Nat) : (Tryz.prog.info? 26).map (·.size) = some (nc x).size:=by exact infoN4
theorem uN : Tryz.prog.underlying 26 = some (.array 4 24):=Tryz.underlying26
section
variable {P : Program} {o : Oper} {a : Act} {w : World}
theorem zae {f : FuncId} {fn : Func} {c : Code} (hf : P.funcs[f]? = some fn) (hname : (fn.name == "runtime.NumGoroutine") = false) (hb : fn.body = some c) (args : Array Value) (w : World) :
  (callFunc f args).run P w = .ok (.enter f args) w:=by
 have hn : ¬ fn.name = "runtime.NumGoroutine":=by simpa using hname
 simp [callFunc,go_sem,hf,hb,hn]
theorem zam {k : FuncId} {xs : List Operand} {ts : Array TypeId} {args : List Value} {v : Value} (ho : o.op = .call { callee:=.value (.func k),args:=xs.toArray,argTypes:=ts }) (hx : xs.map a.eval = args)
  (he : ∀ W,(callFunc k args.toArray).run P W = .ok (.enter k args.toArray) W) (hc : ∀ W,Ext w W → Calls P k args.toArray W fun e W' => e = .returned v ∧ Ext W W') : Made P o v a w :=
 made_call (fun W => by
  have h1 : execOp a.eval o = callFunc k (#[] ++ xs.toArray.map a.eval ++ #[]):=by
   cases o
   subst ho
   rfl
  rw [h1,List.map_toArray,hx]
  simpa using he W) hc
theorem zay {k : FuncId} {xs : List Operand} {ts : Array TypeId} {args : List Value} {v p : Value} {f : Tmp} (ho : o.op = .call { callee:=.value (.tmp f),args:=xs.toArray,argTypes:=ts }) (hf : a.eval (.tmp f) = .func (.func k) #[p] #[]) (hx : xs.map a.eval = args)
  (he : ∀ W,(callFunc k (p :: args).toArray).run P W = .ok (.enter k (p :: args).toArray) W) (hc : ∀ W,Ext w W → Calls P k (p :: args).toArray W fun e W' => e = .returned v ∧ Ext W W') : Made P o v a w :=
 made_call (fun W => by
  unfold execOp
  simp only [ho,resolve,hf,List.map_toArray,hx,Deferred.ofValue,Sem.run_bind,Sem.run_pure,Result.andThen_ok,invoke]
  simpa using he W) hc
theorem zhx {x : Operand} {ty ty2 : TypeId} {c : Int} {v : Bool} (ho : o.op = .binOp .geq ty x (.const (.int .i64 0)) ty2) (hx : a.eval x = .int .i64 c) (hv : decide (0 ≤ c) = v) : Made P o (.bool v) a w:=zch fun W _ => by
 have h0 : a.eval (.const (.int .i64 0)) = .int .i64 0:=rfl
 unfold execOp
 simp only [ho]
 generalize a.eval = ρ at *
 subst hv
 rw [hx,h0]
 simp [go_sem,eqGuard]
theorem zew {op : BinOp} {x y : Operand} {ty ty2 : TypeId} {u v r : Value} (ho : o.op = .binOp op ty x y ty2) (hx : a.eval x = u) (hy : a.eval y = v)
  (hg : ∀ W,(eqGuard op ty x y u v).run P W = .ok () W) (hr : ∀ W,(binOp op ty u v).run P W = .ok r W) : Made P o r a w:=zch fun W _ => by
 unfold execOp
 simp only [ho,hx,hy,Sem.run_bind,hg W,Result.andThen_ok,hr W,Sem.run_pure]
theorem made_slice {ty : TypeId} {x : Operand} {lo hi mx : Option Operand} {u v : Value} (ho : o.op = .slice ty x lo hi mx) (hx : a.eval x = u)
  (h : ∀ W,(Instr.sliceAt ty u (lo.map a.eval) (hi.map a.eval) (mx.map a.eval)).run P W = .ok v W) : Made P o v a w:=zch fun W _ => by
 unfold execOp
 simp only [ho,hx,Sem.run_bind,h W,Result.andThen_ok,Sem.run_pure]
theorem neq_of {t : TypeId} {c d : Array Value} {b r : Bool} {W : World} (h : (binOp .eql t (.agg c) (.agg d)).run P W = .ok (.bool b) W) (hr : (!b) = r) : (binOp .neq t (.agg c) (.agg d)).run P W = .ok (.bool r) W:=by
 subst hr
 have h1 : (do pure (Value.bool (← Op.equal t (.agg c) (.agg d))) : Sem Value).run P W = .ok (.bool b) W:=h
 show (do pure (Value.bool (!(← Op.equal t (.agg c) (.agg d)))) : Sem Value).run P W = .ok (.bool (!b)) W
 simp only [Sem.run_bind,Sem.run_pure] at h1 ⊢
 generalize (Op.equal t (.agg c) (.agg d)).run P W = r at h1 ⊢
 cases r with
 | ok v w' =>
  simp only [Result.andThen_ok,Result.ok.injEq,Value.bool.injEq] at h1 ⊢
  exact ⟨by rw [h1.1],h1.2⟩
 | halt x w' => simp [Result.andThen] at h1
end
section
variable (W : World)
theorem hzN : (Instr.alloc 26 true (.tuple #[])).run Tryz.prog W = .ok (ptrTo W.heap.size) (W.alloc (.cells #[vI vU 0,vI vU 0,vI vU 0,vI vU 0] 26)):=by simp [Instr.alloc,go_sem]
theorem wd_z : wd 0 0 = 0 ∧ wd 0 1 = 0 ∧ wd 0 2 = 0 ∧ wd 0 3 = 0:=by decide
theorem bldN0 : (Instr.build 26 [].toArray).run Tryz.prog W = .ok (nv 0) W:=by
 obtain ⟨h0,h1,h2,h3⟩:=wd_z
 unfold nv nc
 rw [h0,h1,h2,h3]
 simp [Instr.build,go_sem]
theorem bldN1 : (Instr.build 26 [(0,.int .u64 1)].toArray).run Tryz.prog W = .ok (nv 1) W:=by
 unfold nv nc
 rw [show wd 1 0 = 1 by decide,show wd 1 1 = 0 by decide,show wd 1 2 = 0 by decide,show wd 1 3 = 0 by decide]
 simp [Instr.build,go_sem]
end
theorem zed {w : World} {o : Obj} {k : Nat} (hk : k = w.heap.size) : (w.alloc o).heap[k]? = some o:=by subst hk; exact zaz w o
theorem blocks1 (w : World) (A : Obj) : Ext w (w.alloc A) ∧ (w.alloc A).heap[w.heap.size]? = some A:=⟨Ext.alloc _ _,zed rfl⟩
theorem blocks2 (w : World) (A B : Obj) : Ext w ((w.alloc A).alloc B) ∧ ((w.alloc A).alloc B).heap[w.heap.size]? = some A ∧ ((w.alloc A).alloc B).heap[w.heap.size + 1]? = some B :=
 ⟨(Ext.alloc _ _).trans (Ext.alloc _ _),(Ext.alloc _ _).block (zed rfl),zed (by simp)⟩
theorem blocks3 (w : World) (A B C : Obj) : Ext w (((w.alloc A).alloc B).alloc C) ∧ (((w.alloc A).alloc B).alloc C).heap[w.heap.size]? = some A ∧ (((w.alloc A).alloc B).alloc C).heap[w.heap.size + 1]? = some B ∧ (((w.alloc A).alloc B).alloc C).heap[w.heap.size + 1 + 1]? = some C :=
 ⟨(Ext.alloc _ _).trans ((Ext.alloc _ _).trans (Ext.alloc _ _)),((Ext.alloc _ _).trans (Ext.alloc _ _)).block (zed rfl),(Ext.alloc _ _).block (zed (by simp)),zed (by simp)⟩
theorem blocks4 (w : World) (A B C D : Obj) : Ext w ((((w.alloc A).alloc B).alloc C).alloc D) ∧ ((((w.alloc A).alloc B).alloc C).alloc D).heap[w.heap.size]? = some A ∧ ((((w.alloc A).alloc B).alloc C).alloc D).heap[w.heap.size + 1]? = some B ∧ ((((w.alloc A).alloc B).alloc C).alloc D).heap[w.heap.size + 1 + 1]? = some C ∧ ((((w.alloc A).alloc B).alloc C).alloc D).heap[w.heap.size + 1 + 1 + 1]? = some D :=
 ⟨(Ext.alloc _ _).trans ((Ext.alloc _ _).trans ((Ext.alloc _ _).trans (Ext.alloc _ _))),((Ext.alloc _ _).trans ((Ext.alloc _ _).trans (Ext.alloc _ _))).block (zed rfl),((Ext.alloc _ _).trans (Ext.alloc _ _)).block (zed (by simp)),(Ext.alloc _ _).block (zed (by simp)),zed (by simp)⟩
theorem zdj {P : Program} {c : Code} {Q : Exit → Act → World → Prop} {a : Act} {w : World} {A : Obj} (h : ∀ w1,Ext w w1 → w1.heap[w.heap.size]? = some A → c.wp P Q a w1) : c.wp P Q a (w.alloc A):=h _ (blocks1 w A).1 (blocks1 w A).2
theorem zdy {P : Program} {c : Code} {Q : Exit → Act → World → Prop} {a : Act} {w : World} {A B : Obj} (h : ∀ w1,Ext w w1 → w1.heap[w.heap.size]? = some A → w1.heap[w.heap.size + 1]? = some B → c.wp P Q a w1) : c.wp P Q a ((w.alloc A).alloc B):=h _ (blocks2 w A B).1 (blocks2 w A B).2.1 (blocks2 w A B).2.2
theorem zek {P : Program} {c : Code} {Q : Exit → Act → World → Prop} {a : Act} {w : World} {A B C : Obj} (h : ∀ w1,Ext w w1 → w1.heap[w.heap.size]? = some A → w1.heap[w.heap.size + 1]? = some B → w1.heap[w.heap.size + 1 + 1]? = some C → c.wp P Q a w1) : c.wp P Q a (((w.alloc A).alloc B).alloc C):=h _ (blocks3 w A B C).1 (blocks3 w A B C).2.1 (blocks3 w A B C).2.2.1 (blocks3 w A B C).2.2.2
theorem zih {P : Program} {c : Code} {Q : Exit → Act → World → Prop} {a : Act} {w : World} {A B C D : Obj} (h : ∀ w1,Ext w w1 → w1.heap[w.heap.size]? = some A → w1.heap[w.heap.size + 1]? = some B → w1.heap[w.heap.size + 1 + 1]? = some C → w1.heap[w.heap.size + 1 + 1 + 1]? = some D → c.wp P Q a w1) : c.wp P Q a ((((w.alloc A).alloc B).alloc C).alloc D):=h _ (blocks4 w A B C D).1 (blocks4 w A B C D).2.1 (blocks4 w A B C D).2.2.1 (blocks4 w A B C D).2.2.2.1 (blocks4 w A B C D).2.2.2.2
theorem Ext.new {w w1 W : World} {r : Nat} (h : Ext w w1) (k : But r w1 W) (hr : w.heap.size ≤ r) : Ext w W:=Below.trans h (k.new hr (Below.size h))
theorem zfi {P : Program} {o : Oper} {a : Act} {w : World} {ty : TypeId} {x : Operand} {b r : Bool} (ho : o.op = .unOp .not ty x) (hx : a.eval x = .bool b) (hr : (!b) = r) : Made P o (.bool r) a w:=hr ▸ made_not ho hx
theorem wpl_load {P : Program} {ops : Array Oper} {Q : Exit → Act → World → Prop} {rest : List Oper} {o : Oper} {a : Act} {w : World} {ty : TypeId} {x : Operand} {g t : Nat} {C cs : Array Value} {fr : Nat × Nat} {d : TypeDesc} (hg : o.guard = none) (ho : o.op = .load ty x) (hx : a.eval x = ptrTo g) (hb : w.heap[g]? = some (.cells C t fr))
  (hcs : C = cs) (hu : P.underlying ty = some d) (hd : d.isRow = true) (hi : (P.info? ty).map (·.size) = some cs.size) (h : wpList P ops Q rest (a.put o.dst (.agg cs)) w) : wpList P ops Q (o :: rest) a w:=by
 subst hcs
 refine wpList_load_mid hg ty x ho g 0 hx C.toList d (fun j v hv => by rw [cell_of_row w g (0 + j) C t fr hb,Nat.zero_add]; simpa using hv) hu hd (by simpa using hi) ?_
 simpa using h
theorem zex {w W : World} {g r : Nat} {o : Obj} (hB : But r w W) (hg : w.heap[g]? = some o) (hne : g ≠ r) : W.heap[g]? = some o:=by
 rw [hB.block g (Array.getElem?_eq_some_iff.1 hg).1 (by intro e; simp at e; exact hne e),hg]
theorem eqN {X : Nat} (W : World) : (binOp .eql 26 (nv X) (nv X)).run Tryz.prog W = .ok (.bool true) W:=eql_num_same X W
theorem neN {X : Nat} (W : World) : (binOp .neq 26 (nv X) (nv X)).run Tryz.prog W = .ok (.bool false) W:=neq_of (eqN W) rfl
theorem gN (X Y : Nat) (op : BinOp) (x y : Operand) (W : World) : (eqGuard op 26 x y (nv X) (nv Y)).run Tryz.prog W = .ok () W:=by
 unfold nv nc
 cases op <;> simp [eqGuard,go_sem]
def lev (z : Nat → Nat) : Nat → Nat
 | 0 => 0
 | i + 1 => lev z i + z i * 256 ^ i
theorem zje {z : Nat → Nat} (hz : ∀ j,z j < 256) : ∀ i,lev z i < 256 ^ i
 | 0 => by simp [lev]
 | i + 1 => by
  have h:=zje hz i
  have h2 : z i * 256 ^ i ≤ 255 * 256 ^ i:=Nat.mul_le_mul_right _ (by have:=hz i; omega)
  show lev z i + z i * 256 ^ i < _
  rw [Nat.pow_succ]
  omega
theorem dg_put (m q r L c : Nat) (hr : r < m) (hL : L < 256 ^ (m * q + r)) (hc : c < 256) (j : Nat) :
  dg (256 ^ m) (L + c * 256 ^ (m * q + r)) j = if j = q then dg (256 ^ m) L j + c * 256 ^ r else dg (256 ^ m) L j:=by
 have hB : 0 < 256 ^ m:=Nat.pow_pos (by omega)
 have hp : ∀ k,0 < (256 ^ m) ^ k:=fun k => Nat.pow_pos hB
 have e : 256 ^ (m * q + r) = (256 ^ m) ^ q * 256 ^ r:=by rw [Nat.pow_add,Nat.pow_mul]
 have hrm : 256 ^ r * 256 ≤ 256 ^ m:=by rw [← Nat.pow_succ]; exact Nat.pow_le_pow_right (by omega) hr
 rw [e] at hL ⊢
 have hLq : L / (256 ^ m) ^ q < 256 ^ r:=by rw [Nat.div_lt_iff_lt_mul (hp q),Nat.mul_comm]; exact hL
 have hcr : c * 256 ^ r ≤ 255 * 256 ^ r:=Nat.mul_le_mul_right _ (by omega)
 rw [show c * ((256 ^ m) ^ q * 256 ^ r) = (256 ^ m) ^ q * (c * 256 ^ r) by rw [Nat.mul_left_comm]]
 by_cases hj : j = q
 ·
  subst hj
  rw [if_pos rfl]
  unfold dg
  rw [Nat.add_mul_div_left _ _ (hp j),Nat.mod_eq_of_lt (by omega),Nat.mod_eq_of_lt (by omega)]
 ·
  rw [if_neg hj]
  by_cases hlt : j < q
  ·
   rw [← zdi _ q j hlt,Nat.add_mul_mod_self_left,zdi _ q j hlt]
  ·
   have hjq : q + 1 ≤ j:=by omega
   have hle : (256 ^ m) ^ (q + 1) ≤ (256 ^ m) ^ j:=Nat.pow_le_pow_right hB hjq
   rw [Nat.pow_succ] at hle
   have h1 : (256 ^ m) ^ q * (256 ^ r + c * 256 ^ r) ≤ (256 ^ m) ^ q * 256 ^ m:=Nat.mul_le_mul_left _ (by omega)
   rw [Nat.mul_add] at h1
   unfold dg
   rw [Nat.div_eq_of_lt (show L < _ by omega),Nat.div_eq_of_lt (show L + (256 ^ m) ^ q * (c * 256 ^ r) < _ by omega)]
theorem w64_bytes : w64 = 256 ^ 8:=by decide
theorem w16_bytes : w16 = 256 ^ 2:=by decide
theorem two_256 (r : Nat) : 2 ^ (r * 8) = 256 ^ r:=by rw [Nat.mul_comm,Nat.pow_mul]
theorem wd_put (L c k j : Nat) (hL : L < 256 ^ k) (hc : c < 256) : wd (L + c * 256 ^ k) j = if j = k / 8 then wd L j + (c * 256 ^ (k % 8) : Nat) else wd L j:=by
 have h:=dg_put 8 (k / 8) (k % 8) L c (Nat.mod_lt _ (by omega)) (by rw [Nat.div_add_mod]; exact hL) hc j
 rw [Nat.div_add_mod,← w64_bytes] at h
 unfold wd
 rw [h]
 split
 ·
  rw [Int.natCast_add]
 ·
  rfl
theorem of_word (L c k : Nat) (hL : L < 256 ^ k) (hc : c < 256) : bits .or .u64 (wd L (k / 8)) (IntKind.u64.wrap ((c : Int) * 2 ^ (k % 8 * 8))) = wd (L + c * 256 ^ k) (k / 8):=by
 have hr : k % 8 < 8:=Nat.mod_lt _ (by omega)
 have hp : 256 ^ (k % 8) ≤ 256 ^ 7:=Nat.pow_le_pow_right (by omega) (by omega)
 have h7 : (256 : Nat) ^ 7 = 72057594037927936:=by decide
 have hcr : c * 256 ^ (k % 8) ≤ 255 * 256 ^ (k % 8):=Nat.mul_le_mul_right _ (by omega)
 have hq : dg w64 L (k / 8) < 256 ^ (k % 8):=by
  have e : 256 ^ k = w64 ^ (k / 8) * 256 ^ (k % 8):=by
   rw [w64_bytes,← Nat.pow_mul,← Nat.pow_add,Nat.div_add_mod]
  unfold dg
  refine Nat.lt_of_le_of_lt (Nat.mod_le _ _) ?_
  rw [Nat.div_lt_iff_lt_mul (Nat.pow_pos zbc),Nat.mul_comm,← e]
  exact hL
 have ec : (c : Int) * 2 ^ (k % 8 * 8) = ((c * 256 ^ (k % 8) : Nat) : Int):=by
  rw [← two_256,Int.natCast_mul,Int.natCast_pow]
  rfl
 rw [wd_put L c k _ hL hc,if_pos rfl,ec,IntKind.wrap_u64]
 unfold wd
 rw [show ((c * 256 ^ (k % 8) : Nat) : Int) % 18446744073709551616 = ((c * 256 ^ (k % 8) : Nat) : Int) by omega]
 rw [u64_or_nat _ _ (by omega) (by omega),Nat.or_comm,nat_join (8 * (k % 8)) _ _ (by rw [Nat.mul_comm 8,two_256]; exact Nat.mul_mod_left _ _) (by rw [Nat.mul_comm 8,two_256]; exact hq)]
 omega
theorem of_step (z : Nat → Nat) (k : Nat) (hz : ∀ j,z j < 256) (i : Nat) :
  (if i = k / 8 then Value.int .u64 (wd (lev z k + z k * 256 ^ k) (k / 8)) else Value.int .u64 (wd (lev z k) i)) = Value.int .u64 (wd (lev z (k + 1)) i):=by
 show _ = Value.int .u64 (wd (lev z k + z k * 256 ^ k) i)
 by_cases h : i = k / 8
 ·
  rw [if_pos h,h]
 ·
  rw [if_neg h,wd_put _ _ _ _ (zje hz k) (hz k),if_neg h]
theorem zfa (i : Nat) : wd 0 i = 0:=by unfold wd dg; simp
theorem of_some (b o n c : Nat) (y : Nat → Nat) (hy : ∀ j,y j < 256) (hn : n ≤ 32) (w : World) (hb : b < w.heap.size) (hcell : ∀ j,j < n → w.cell? ⟨b,o + j,none⟩ = some (.int .u8 (y j))) :
  Calls Tryz.prog 83 #[.slice (some ⟨b,o,none⟩) n c] w fun e w' => e = .returned (.tuple #[.agg #[vI vU (wd (lev (fun k => y (n - 1 - k)) n) 0),vI vU (wd (lev (fun k => y (n - 1 - k)) n) 1),vI vU (wd (lev (fun k => y (n - 1 - k)) n) 2),vI vU (wd (lev (fun k => y (n - 1 - k)) n) 3)],.nilIface]) ∧ Below w.heap.size w w':=by
 have HY:=veil hy
 have HC:=veil hcell
 clear hy hcell
 have hn' : (n : Int) ≤ 32:=by omega
 go_enter Tryz.func83,Tryz.ntmps83
 go_wp2
 go_loopw [13] (fun i wr => ∃ k : Nat,k ≤ n ∧ i = .int .i64 k ∧ wr.rowIs w.heap.size 26 4 (fun _ => .int .u64 0) ∧ wr.rowIs (w.heap.size + 1) 26 4 (fun j => .int .u64 (wd (lev (fun k => y (n - 1 - k)) k) j)) ∧ Below w.heap.size w wr)
  (fun i _ => n - (intOf i).toNat)
 case atStart => exact ⟨0,by omega,rfl,(zag (n:=4) rfl rfl (arr4 fun _ => .int .u64 0)).alloc _,(zag (n:=4) (f:=fun _ => .int .u64 0) (by simp) rfl (arr4 fun _ => .int .u64 0)).congr (fun i _ => by rw [lev,zfa]),((Below.refl _ _).alloc (by simp) _).alloc (by simp) _⟩
 case round =>
  obtain ⟨k,hk,rfl,hR,hS,hbel⟩:=hrel
  by_cases hlt : k < n
  ·
   have hk8 : k / 8 < 4:=by omega
   have c1:=hS.cell hk8
   have f1:=hS.frozen (k / 8)
   obtain ⟨j,hj⟩ : ∃ j,j = n - 1 - k:=⟨_,rfl⟩
   have hji : (n : Int) - 1 - (k : Int) = (j : Int):=by omega
   have hjn : (j : Int) < (n : Int):=by omega
   have hkn : (k : Int) < (n : Int):=by omega
   have c2:=(hbel.cell (p:=⟨b,o + j,none⟩) hb).trans (HC.out j (by omega))
   have l1:=wd_lo (lev (fun k => y (n - 1 - k)) k) (k / 8)
   have u1:=wd_le (lev (fun k => y (n - 1 - k)) k) (k / 8)
   have u2 : (y j : Int) ≤ 255:=by have:=HY.out j; omega
   have hst:=of_step (fun k => y (n - 1 - k)) k (fun j => HY.out _)
   have HS:=veil hst
   clear hst
   have HJ:=veil hj
   clear hj
   go_wp2
   go_region
   all_goals
    go_wp2
    go_roundw
    case rel =>
     rw [show y j = y (n - 1 - k) by rw [HJ.out],of_word _ _ _ (zje (fun j => HY.out _) k) (HY.out _)]
     exact ⟨k + 1,by omega,by go_num,(zax hR (by omega) _).drew,((hS.set (k / 8) _).congr fun i _ => HS.out i).drew,(zat hbel (by omega) _).drew⟩
    case measure => simp [intOf]; omega
  ·
   obtain rfl : k = n:=by omega
   obtain ⟨c0,c1,c2,c3⟩:=zac hS
   obtain ⟨d0,d1,d2,d3⟩:=zac hR
   obtain ⟨f0,f1,f2,f3⟩:=zah hR
   go_wp2
   refine bodyPost_ret (zbz rfl _ _ w.heap.size 26 #[vI vU (wd (lev (fun j => y (k - 1 - j)) k) 0),vI vU (wd (lev (fun j => y (k - 1 - j)) k) 1),vI vU (wd (lev (fun j => y (k - 1 - j)) k) 2),vI vU (wd (lev (fun j => y (k - 1 - j)) k) 3)] (0,0) 4 24 rfl (blk4 (put4 hR fun j => .int .u64 (wd (lev (fun j => y (k - 1 - j)) k) j))) Tryz.underlying26 (by kernel_rfl)) rfl ⟨rfl,zaj hbel (Nat.le_refl _) _ _ _ _⟩
def qc (x y : Nat) (f : Bool) : Array Value:=#[vI vU (wd x 0),vI vU (wd x 1),vI vU (wd x 2),vI vU (wd x 3),vI vU (wd y 0),vI vU (wd y 1),vI vU (wd y 2),vI vU (wd y 3),.bool (f)]
def qv (x y : Nat) (f : Bool) : Value:=.agg (qc x y f)
theorem qc_one (x y : Nat) (f : Bool) : (qc x y f).all (·.oneCell') = true:=by simp [qc,Value.oneCell']
theorem iT (x y : Nat) (f : Bool) : (Tryz.prog.info? 48).map (·.size) = some (qc x y f).size:=by kernel_rfl
theorem zdd (W : World) : (isAgg 4).run Tryz.prog W = .ok false W:=by simp [isAgg,go_sem]
section
variable (g : Nat) (W : World)
theorem fldT0 : (Instr.fieldAt 48 (ptrTo g) 0).run Tryz.prog W = .ok (.pointer (some ⟨g,0,none⟩)) W:=by simp [Instr.fieldAt,go_sem]
theorem fldT1 : (Instr.fieldAt 48 (ptrTo g) 1).run Tryz.prog W = .ok (.pointer (some ⟨g,4,none⟩)) W:=by simp [Instr.fieldAt,go_sem]
theorem fldT2 : (Instr.fieldAt 48 (ptrTo g) 2).run Tryz.prog W = .ok (.pointer (some ⟨g,8,none⟩)) W:=by simp [Instr.fieldAt,go_sem]
theorem hzT : (Instr.alloc 48 true (.tuple #[])).run Tryz.prog W = .ok (ptrTo W.heap.size) (W.alloc (.cells #[vI vU 0,vI vU 0,vI vU 0,vI vU 0,vI vU 0,vI vU 0,vI vU 0,vI vU 0,.bool false] 48)):=by simp [Instr.alloc,go_sem]
theorem bldT (x y : Nat) : (Instr.build 48 [(0,nv x),(1,nv y)].toArray).run Tryz.prog W = .ok (qv x y false) W:=by simp [Instr.build,go_sem,nv,nc,qv,qc]
theorem bldTF : (Instr.build 48 [(2,.bool true)].toArray).run Tryz.prog W = .ok (qv 0 0 true) W:=by
 obtain ⟨h0,h1,h2,h3⟩:=wd_z
 unfold qv qc
 rw [h0,h1,h2,h3]
 simp [Instr.build,go_sem]
end
theorem add64 (x y c : Int) (hx : 0 ≤ x) (hy : 0 ≤ y) (hc0 : 0 ≤ c) (hc : c ≤ 1) (w : World) :
  (callFunc 164 #[vI vU x,vI vU y,vI vU c]).run Tryz.prog w = .ok (.value (.tuple #[vI vU ((x + y + c) % 18446744073709551616),vI vU ((x + y + c) / 18446744073709551616)])) w:=by
 rw [run_callFunc_extern Tryz.func164 (by kernel_rfl) (by kernel_rfl) (by kernel_rfl) (e:=add64Entry) (by kernel_rfl),run_add64 x y c hx hy hc0 hc]
 rfl
def cyI (X Y i : Nat) : Int:=(cy w64 X Y i : Nat)
theorem add64_at (X Y k : Nat) (w : World) :
  (callFunc 164 #[vI vU (wd X k),vI vU (wd Y k),vI vU (cyI X Y k)]).run Tryz.prog w = .ok (.value (.tuple #[vI vU (wd (X + Y) k),vI vU (cyI X Y (k + 1))])) w:=by
 have hc:=cy_le zbc X Y k
 rw [add64 _ _ _ (wd_lo _ _) (wd_lo _ _) (by unfold cyI; omega) (by unfold cyI; omega)]
 unfold wd cyI
 rw [cy_succ zbc,dg_add zbc]
 unfold w64
 simp
theorem cyI_top {X Y : Nat} (hX : X < top) (hY : Y < top) : (cyI X Y 4 != 0) = decide (top ≤ X + Y):=by
 unfold cyI
 rw [cy_top (n:=4) hX hY]
 show _ = decide (w64 ^ 4 ≤ X + Y)
 by_cases h : w64 ^ 4 ≤ X + Y <;> simp [h]
theorem add_any (X Y : Nat) (hX : X < top) (hY : Y < top) (w : World) :
  Calls Tryz.prog 154 #[.agg #[vI vU (wd X 0),vI vU (wd X 1),vI vU (wd X 2),vI vU (wd X 3)],.agg #[vI vU (wd Y 0),vI vU (wd Y 1),vI vU (wd Y 2),vI vU (wd Y 3)]] w fun e w' =>
   e = .returned (.tuple #[.agg #[vI vU (wd (X + Y) 0),vI vU (wd (X + Y) 1),vI vU (wd (X + Y) 2),vI vU (wd (X + Y) 3)],.bool (decide (top ≤ X + Y))]) ∧ Below w.heap.size w w':=by
 have h29:=fun (k : Nat) (W : World) => add64_at X Y k W
 go_enter Tryz.func154,Tryz.ntmps154
 go_wp2
 go_loopw [7,9] (fun c i wr => ∃ k : Nat,k ≤ 4 ∧ i = .int .i64 k ∧ c = .int .u64 (cyI X Y k) ∧ wr.rowIs w.heap.size 26 4 (fun j => .int .u64 (wd X j))
   ∧ wr.rowIs (w.heap.size + 1) 26 4 (fun j => .int .u64 (wd Y j)) ∧ wr.rowIs (w.heap.size + 1 + 1) 26 4 (fun _ => .int .u64 0)
   ∧ wr.rowIs (w.heap.size + 1 + 1 + 1) 26 4 (fun j => .int .u64 (if j < k then wd (X + Y) j else 0)) ∧ Below w.heap.size w wr)
  (fun _ i _ => 4 - (intOf i).toNat)
 case atStart => exact ⟨0,by omega,rfl,by simp [cyI,cy_zero],(((zag (n:=4) (by simp) rfl (arr4 fun j => .int .u64 (wd X j))).alloc _).alloc _).alloc _,((zag (n:=4) (by simp) rfl (arr4 fun j => .int .u64 (wd Y j))).alloc _).alloc _,(zag (n:=4) (by simp) rfl (arr4 fun _ => .int .u64 0)).alloc _,zag (n:=4) (by simp) rfl (arr4 fun _ => .int .u64 0),((((Below.refl _ _).alloc (by simp) _).alloc (by simp) _).alloc (by simp; omega) _).alloc (by simp; omega) _⟩
 case round =>
  obtain ⟨k,hk,rfl,rfl,hRX,hRY,hRZ,hRS,hbel⟩:=hrel
  by_cases hlt : k < 4
  ·
   have c1:=hRX.cell hlt
   have c2:=hRY.cell hlt
   have c3:=hRS.cell hlt
   have f3:=hRS.frozen k
   go_wp2
   go_region_with (fail)
   all_goals
    go_wp2
    go_roundw
    case rel => exact ⟨k + 1,by omega,by go_num,rfl,(zax hRX (by omega) _).drew,(zax hRY (by omega) _).drew,(zax hRZ (by omega) _).drew,((hRS.set k _).congr (row_step hlt)).drew,(zat hbel (by omega) _).drew⟩
    case measure => simp [intOf]; omega
  ·
   obtain rfl : k = 4:=by omega
   obtain ⟨c0,c1,c2,c3⟩:=zac hRS
   obtain ⟨d0,d1,d2,d3⟩:=zac hRZ
   obtain ⟨f0,f1,f2,f3⟩:=zah hRZ
   simp only [show (0 : Nat) < 4 from by omega,show (1 : Nat) < 4 from by omega,show (2 : Nat) < 4 from by omega,show (3 : Nat) < 4 from by omega,if_true] at c0 c1 c2 c3
   clear hRX hRY hRS
   have hz:=cyI_top hX hY
   go_wp2
   refine bodyPost_ret (zbz rfl _ _ (w.heap.size + 1 + 1) 26 #[vI vU (wd (X + Y) 0),vI vU (wd (X + Y) 1),vI vU (wd (X + Y) 2),vI vU (wd (X + Y) 3)] (0,0) 4 24 rfl (blk4 (put4 hRZ fun j => .int .u64 (wd (X + Y) j))) Tryz.underlying26 (by kernel_rfl)) rfl ⟨?_,zaj hbel (by omega) _ _ _ _⟩
   rfl
theorem add_calls (X Y : Nat) (hX : X < top) (hY : Y < top) (w : World) :
  Calls Tryz.prog 154 #[.agg #[vI vU (wd X 0),vI vU (wd X 1),vI vU (wd X 2),vI vU (wd X 3)],.agg #[vI vU (wd Y 0),vI vU (wd Y 1),vI vU (wd Y 2),vI vU (wd Y 3)]] w fun e w' => e = .returned (.tuple #[.agg #[vI vU (wd ((X + Y) % top) 0),vI vU (wd ((X + Y) % top) 1),vI vU (wd ((X + Y) % top) 2),vI vU (wd ((X + Y) % top) 3)],.bool (decide (top ≤ X + Y))]) ∧ Below w.heap.size w w':=by
 rw [zey _ 0 (by omega),zey _ 1 (by omega),zey _ 2 (by omega),zey _ 3 (by omega)]
 exact add_any X Y hX hY w
def sub64Entry : Array Value → Sem Value:=fun args => do
 let (x,y,b) ← Extern.MathBitsCarry.three "Sub64" args
 pure (Extern.MathBitsCarry.pair ((x + Extern.MathBitsCarry.m64 - y - b) % Extern.MathBitsCarry.m64) (if x < y + b then 1 else 0))
theorem run_sub64 (x y b : Nat) (hb : b ≤ 1) (w : World) :
  (sub64Entry #[vI vU (x : Int),vI vU (y : Int),vI vU (b : Int)]).run Tryz.prog w =
   .ok (.tuple #[vI vU (((x + w64 - y - b) % w64 : Nat) : Int),vI vU ((if x < y + b then 1 else 0 : Nat) : Int)]) w:=by
 have : b = 0 ∨ b = 1:=by omega
 rcases this with rfl | rfl <;> rfl
theorem sub64 (x y b : Nat) (hb : b ≤ 1) (w : World) :
  (callFunc 155 #[vI vU (x : Int),vI vU (y : Int),vI vU (b : Int)]).run Tryz.prog w = .ok (.value (.tuple #[vI vU (((x + w64 - y - b) % w64 : Nat) : Int),vI vU ((if x < y + b then 1 else 0 : Nat) : Int)])) w:=by
 rw [run_callFunc_extern Tryz.func155 (by kernel_rfl) (by kernel_rfl) (by kernel_rfl) (e:=sub64Entry) (by kernel_rfl),run_sub64 x y b hb]
 rfl
def bwI (X Y i : Nat) : Int:=(bw w64 X Y i : Nat)
theorem sub64_at (X Y k : Nat) (hk : k < 4) (hY : Y ≤ top) (w : World) :
  (callFunc 155 #[vI vU (wd X k),vI vU (wd Y k),vI vU (bwI X Y k)]).run Tryz.prog w = .ok (.value (.tuple #[vI vU (wd (X + top - Y) k),vI vU (bwI X Y (k + 1))])) w:=by
 unfold wd bwI
 rw [sub64 _ _ _ (bw_le w64 X Y k)]
 unfold top at hY ⊢
 rw [bw_succ zbc,dg_sub zbc X Y 4 k hk hY]
theorem bwI_top {X Y : Nat} (hX : X < top) (hY : Y < top) : (bwI X Y 4 != 0) = decide (X < Y):=by
 unfold bwI
 rw [bw_top (n:=4) hX hY]
 by_cases h : X < Y <;> simp [h]
theorem sub_any (X Y : Nat) (hX : X < top) (hY : Y < top) (w : World) :
  Calls Tryz.prog 132 #[.agg #[vI vU (wd X 0),vI vU (wd X 1),vI vU (wd X 2),vI vU (wd X 3)],.agg #[vI vU (wd Y 0),vI vU (wd Y 1),vI vU (wd Y 2),vI vU (wd Y 3)]] w fun e w' =>
   e = .returned (.tuple #[.agg #[vI vU (wd (X + top - Y) 0),vI vU (wd (X + top - Y) 1),vI vU (wd (X + top - Y) 2),vI vU (wd (X + top - Y) 3)],.bool (decide (X < Y))]) ∧ Below w.heap.size w w':=by
 go_enter Tryz.func132,Tryz.ntmps132
 go_wp2
 go_loopw [7,9] (fun c i wr => ∃ k : Nat,k ≤ 4 ∧ i = .int .i64 k ∧ c = .int .u64 (bwI X Y k) ∧ wr.rowIs w.heap.size 26 4 (fun j => .int .u64 (wd X j))
   ∧ wr.rowIs (w.heap.size + 1) 26 4 (fun j => .int .u64 (wd Y j)) ∧ wr.rowIs (w.heap.size + 1 + 1) 26 4 (fun _ => .int .u64 0)
   ∧ wr.rowIs (w.heap.size + 1 + 1 + 1) 26 4 (fun j => .int .u64 (if j < k then wd (X + top - Y) j else 0)) ∧ Below w.heap.size w wr)
  (fun _ i _ => 4 - (intOf i).toNat)
 case atStart => exact ⟨0,by omega,rfl,by simp [bwI,bw_zero],(((zag (n:=4) (by simp) rfl (arr4 fun j => .int .u64 (wd X j))).alloc _).alloc _).alloc _,((zag (n:=4) (by simp) rfl (arr4 fun j => .int .u64 (wd Y j))).alloc _).alloc _,(zag (n:=4) (by simp) rfl (arr4 fun _ => .int .u64 0)).alloc _,zag (n:=4) (by simp) rfl (arr4 fun _ => .int .u64 0),((((Below.refl _ _).alloc (by simp) _).alloc (by simp) _).alloc (by simp; omega) _).alloc (by simp; omega) _⟩
 case round =>
  obtain ⟨k,hk,rfl,rfl,hRX,hRY,hRZ,hRS,hbel⟩:=hrel
  by_cases hlt : k < 4
  ·
   have c1:=hRX.cell hlt
   have c2:=hRY.cell hlt
   have c3:=hRS.cell hlt
   have f3:=hRS.frozen k
   have h30:=fun (W : World) => sub64_at X Y k hlt (Nat.le_of_lt hY) W
   go_wp2
   go_region_with (fail)
   all_goals
    go_wp2
    go_roundw
    case rel => exact ⟨k + 1,by omega,by go_num,rfl,(zax hRX (by omega) _).drew,(zax hRY (by omega) _).drew,(zax hRZ (by omega) _).drew,((hRS.set k _).congr (row_step hlt)).drew,(zat hbel (by omega) _).drew⟩
    case measure => simp [intOf]; omega
  ·
   obtain rfl : k = 4:=by omega
   obtain ⟨c0,c1,c2,c3⟩:=zac hRS
   obtain ⟨d0,d1,d2,d3⟩:=zac hRZ
   obtain ⟨f0,f1,f2,f3⟩:=zah hRZ
   simp only [show (0 : Nat) < 4 from by omega,show (1 : Nat) < 4 from by omega,show (2 : Nat) < 4 from by omega,show (3 : Nat) < 4 from by omega,if_true] at c0 c1 c2 c3
   clear hRX hRY hRS
   have hz:=bwI_top hX hY
   go_wp2
   refine bodyPost_ret (zbz rfl _ _ (w.heap.size + 1 + 1) 26 #[vI vU (wd (X + top - Y) 0),vI vU (wd (X + top - Y) 1),vI vU (wd (X + top - Y) 2),vI vU (wd (X + top - Y) 3)] (0,0) 4 24 rfl (blk4 (put4 hRZ fun j => .int .u64 (wd (X + top - Y) j))) Tryz.underlying26 (by kernel_rfl)) rfl ⟨?_,zaj hbel (by omega) _ _ _ _⟩
   rfl
theorem sub_calls (X Y : Nat) (hX : X < top) (hY : Y < top) (w : World) :
  Calls Tryz.prog 132 #[.agg #[vI vU (wd X 0),vI vU (wd X 1),vI vU (wd X 2),vI vU (wd X 3)],.agg #[vI vU (wd Y 0),vI vU (wd Y 1),vI vU (wd Y 2),vI vU (wd Y 3)]] w fun e w' => e = .returned (.tuple #[.agg #[vI vU (wd ((X + top - Y) % top) 0),vI vU (wd ((X + top - Y) % top) 1),vI vU (wd ((X + top - Y) % top) 2),vI vU (wd ((X + top - Y) % top) 3)],.bool (decide (X < Y))]) ∧ Below w.heap.size w w':=by
 rw [zey _ 0 (by omega),zey _ 1 (by omega),zey _ 2 (by omega),zey _ 3 (by omega)]
 exact sub_any X Y hX hY w
def cmpN (X Y : Nat) : Int:=if X < Y then -1 else if Y < X then 1 else 0
theorem zkd (B X Y k : Nat) (hB : 0 < B) : cmpN (X % B ^ (k + 1)) (Y % B ^ (k + 1)) = if dg B X k < dg B Y k then -1 else if dg B Y k < dg B X k then 1 else cmpN (X % B ^ k) (Y % B ^ k):=by
 have hp : 0 < B ^ k:=Nat.pow_pos hB
 have h1:=Nat.mod_lt X hp
 have h2:=Nat.mod_lt Y hp
 unfold cmpN
 rw [zcw,zcw]
 generalize dg B X k = x
 generalize dg B Y k = y
 generalize X % B ^ k = r at *
 generalize Y % B ^ k = s at *
 generalize B ^ k = P at *
 by_cases hxy : x < y
 ·
  have : P * x + P ≤ P * y:=by rw [← Nat.mul_succ]; exact Nat.mul_le_mul_left _ hxy
  rw [if_pos (by omega),if_pos hxy]
 ·
  by_cases hyx : y < x
  ·
   have : P * y + P ≤ P * x:=by rw [← Nat.mul_succ]; exact Nat.mul_le_mul_left _ hyx
   rw [if_neg (by omega),if_pos (by omega),if_neg hxy,if_pos hyx]
  ·
   have hxy' : x = y:=by omega
   subst hxy'
   simp
theorem cmp_high (B X Y n m : Nat) (hB : 0 < B) (hX : X < B ^ n) (hY : Y < B ^ n) (hm : m < n) (h : ∀ j,m < j → j < n → dg B X j = dg B Y j) (hne : dg B X m ≠ dg B Y m) :
  cmpN X Y = if dg B X m < dg B Y m then -1 else 1:=by
 have e : X / B ^ (m + 1) = Y / B ^ (m + 1):=by
  have hn : B ^ n = B ^ (m + 1) * B ^ (n - (m + 1)):=by rw [← Nat.pow_add]; congr 1; omega
  refine zib hB (n:=n - (m + 1)) ?_ ?_ fun i hi => ?_
  ·
   rw [Nat.div_lt_iff_lt_mul (Nat.pow_pos hB),Nat.mul_comm,← hn]; exact hX
  ·
   rw [Nat.div_lt_iff_lt_mul (Nat.pow_pos hB),Nat.mul_comm,← hn]; exact hY
  ·
   have:=h (m + 1 + i) (by omega) (by omega)
   unfold dg at *
   rwa [Nat.div_div_eq_div_mul,Nat.div_div_eq_div_mul,← Nat.pow_add]
 have c : cmpN X Y = cmpN (X % B ^ (m + 1)) (Y % B ^ (m + 1)):=by
  have hx:=Nat.mod_add_div X (B ^ (m + 1))
  have hy:=Nat.mod_add_div Y (B ^ (m + 1))
  rw [e] at hx
  unfold cmpN
  generalize B ^ (m + 1) * (Y / B ^ (m + 1)) = q at *
  generalize X % B ^ (m + 1) = r at *
  generalize Y % B ^ (m + 1) = s at *
  subst hx; subst hy
  simp
 rw [c,zkd B X Y m hB]
 by_cases hlt : dg B X m < dg B Y m
 ·
  rw [if_pos hlt,if_pos hlt]
 ·
  rw [if_neg hlt,if_neg hlt,if_pos (by omega)]
theorem compare_lt (x y : Int) (h : x < y) (w : World) : Calls Tryz.prog 138 #[vI vU x,vI vU y] w fun e w' => e = .returned (.int .i64 (-1)) ∧ w' = w:=by
 go_enter Tryz.func138,Tryz.ntmps138
 go_wp2
 go_ret
 exact ⟨rfl,rfl⟩
theorem compare_gt (x y : Int) (h : y < x) (w : World) : Calls Tryz.prog 138 #[vI vU x,vI vU y] w fun e w' => e = .returned (.int .i64 1) ∧ w' = w:=by
 go_enter Tryz.func138,Tryz.ntmps138
 go_wp2
 go_ret
 exact ⟨rfl,rfl⟩
theorem wd_cmp {X Y k : Nat} (h : dg w64 X k < dg w64 Y k) : wd X k < wd Y k:=by unfold wd; omega
theorem zgx (X Y : Nat) (hX : X < top) (hY : Y < top) (w : World) :
  Calls Tryz.prog 94 #[.agg #[vI vU (wd X 0),vI vU (wd X 1),vI vU (wd X 2),vI vU (wd X 3)],.agg #[vI vU (wd Y 0),vI vU (wd Y 1),vI vU (wd Y 2),vI vU (wd Y 3)]] w fun e w' => e = .returned (.int .i64 (cmpN X Y)) ∧ Below w.heap.size w w':=by
 go_enter Tryz.func94,Tryz.ntmps94
 go_wp2
 go_loopw [5] (fun i wr => ∃ k : Nat,k ≤ 4 ∧ i = .int .i64 ((k : Int) - 1) ∧ (∀ j,k ≤ j → j < 4 → dg w64 X j = dg w64 Y j) ∧ wr.rowIs w.heap.size 26 4 (fun j => .int .u64 (wd X j))
   ∧ wr.rowIs (w.heap.size + 1) 26 4 (fun j => .int .u64 (wd Y j)) ∧ Below w.heap.size w wr)
  (fun i _ => (intOf i + 1).toNat)
 case atStart => exact ⟨4,by omega,rfl,by intro j h1 h2; omega,(zag (n:=4) (by simp) rfl (arr4 fun j => .int .u64 (wd X j))).alloc _,zag (n:=4) (by simp) rfl (arr4 fun j => .int .u64 (wd Y j)),((Below.refl _ _).alloc (by simp) _).alloc (by simp) _⟩
 case round =>
  obtain ⟨k,hk,hi,hall,hRX,hRY,hbel⟩:=hrel
  have HALL:=veil hall
  clear hall
  cases k with
  | zero =>
   subst hi
   have hXY : X = Y:=zib zbc hX hY fun j hj => HALL.out j (Nat.zero_le _) hj
   go_wp2
   go_ret
   have hc : cmpN X Y = 0:=by unfold cmpN; rw [if_neg (by omega),if_neg (by omega)]
   rw [hc]
   exact ⟨rfl,hbel⟩
  | succ m =>
   obtain rfl : _ = Value.int .i64 (m : Int):=hi.trans (by congr 1; omega)
   have hm : m < 4:=by omega
   go_wp2
   have c1:=hRX.cell hm
   have c2:=hRY.cell hm
   rcases Nat.lt_trichotomy (dg w64 X m) (dg w64 Y m) with h | h | h
   ·
    have hlt:=wd_cmp h
    have hne : (wd X m != wd Y m) = true:=by rw [bne_iff_ne]; omega
    have hc : cmpN X Y = -1:=by rw [cmp_high w64 X Y 4 m zbc hX hY hm (fun j h1 h2 => HALL.out j (by omega) h2) (by omega),if_pos h]
    have HC:=veil hc
    clear hc
    go_quiet (fail)
    go_wp2
    go_quiet ((go_at_call 138; exact quiet_more (compare_lt _ _ hlt _)))
    go_wp2
    go_ret
    rw [HC.out]
    exact ⟨rfl,zbk (zbk hbel _) _⟩
   ·
    have hne : (wd X m != wd Y m) = false:=by unfold wd; rw [h]; simp
    go_quiet (fail)
    go_wp2
    go_roundw
    case rel => exact ⟨m,by omega,by go_num,fun j h1 h2 => by
     by_cases e : j = m
     ·
      rw [e]; exact h
     ·
      exact HALL.out j (by omega) h2,zbw hRX _,zbw hRY _,zbk hbel _⟩
    case measure => simp [intOf]
   ·
    have hlt:=wd_cmp h
    have hne : (wd X m != wd Y m) = true:=by rw [bne_iff_ne]; omega
    have hc : cmpN X Y = 1:=by rw [cmp_high w64 X Y 4 m zbc hX hY hm (fun j h1 h2 => HALL.out j (by omega) h2) (by omega),if_neg (by omega)]
    have HC:=veil hc
    clear hc
    go_quiet (fail)
    go_wp2
    go_quiet ((go_at_call 138; exact quiet_more (compare_gt _ _ hlt _)))
    go_wp2
    go_ret
    rw [HC.out]
    exact ⟨rfl,zbk (zbk hbel _) _⟩
theorem ret_u2' {a b c d : Int} (h : a = b) (h2 : c = d) : Ending.returned (.tuple #[vI vU a,vI vU c]) = .returned (.tuple #[vI vU b,vI vU d]):=by rw [h,h2]
theorem gadd_core (x y c : Int) (hx : 0 ≤ x) (hx2 : x ≤ 18446744073709551615) (hy : 0 ≤ y) (hy2 : y ≤ 18446744073709551615) (hc : 0 ≤ c) (hc2 : c ≤ 1) (w : World) :
  Calls Tryz.prog 126 #[vI vU x,vI vU y,vI vU c] w fun e w' => e = .returned (.tuple #[vI vU ((x + y + c) % 18446744073709551616),vI vU ((x + y + c) / 18446744073709551616)]) ∧ w' = w:=by
 obtain ⟨s,hs⟩ : ∃ s,s = (x + y) % 18446744073709551616:=⟨_,rfl⟩
 obtain ⟨t,ht⟩ : ∃ t,t = (s + c) % 18446744073709551616:=⟨_,rfl⟩
 have e1 : IntKind.u64.wrap (x + y) = s:=by rw [IntKind.wrap_u64,hs]
 have e2 : IntKind.u64.wrap (s + c) = t:=by rw [IntKind.wrap_u64,ht]
 have et : t = (x + y + c) % 18446744073709551616:=by omega
 have E:=veil et
 by_cases h1 : s < x
 ·
  have h2 : ¬ t < s:=by omega
  have eo : (x + y + c) / 18446744073709551616 = 1:=by omega
  have EO:=veil eo
  clear et eo hs ht hx hx2 hy hy2 hc hc2
  go_enter Tryz.func126,Tryz.ntmps126
  go_wp2
  go_ret2
  rw [EO.out,← E.out]
  exact ⟨ret_u2' (by first | rfl | (rw [e1,e2]) | (rw [e2])) rfl,rfl⟩
 ·
  by_cases h2 : t < s
  ·
   have eo : (x + y + c) / 18446744073709551616 = 1:=by omega
   have EO:=veil eo
   clear et eo hs ht hx hx2 hy hy2 hc hc2
   go_enter Tryz.func126,Tryz.ntmps126
   go_wp2
   go_ret2
   rw [EO.out,← E.out]
   exact ⟨ret_u2' (by first | rfl | (rw [e1,e2]) | (rw [e2])) rfl,rfl⟩
  ·
   have eo : (x + y + c) / 18446744073709551616 = 0:=by omega
   have EO:=veil eo
   clear et eo hs ht hx hx2 hy hy2 hc hc2
   go_enter Tryz.func126,Tryz.ntmps126
   go_wp2
   go_ret2
   rw [EO.out,← E.out]
   exact ⟨ret_u2' (by first | rfl | (rw [e1,e2]) | (rw [e2])) rfl,rfl⟩
theorem gadd_at (X Y k : Nat) (w : World) :
  Calls Tryz.prog 126 #[vI vU (wd X k),vI vU (wd Y k),vI vU (cyI X Y k)] w fun e w' => e = .returned (.tuple #[vI vU (wd (X + Y) k),vI vU (cyI X Y (k + 1))]) ∧ w = w':=by
 have hc:=cy_le zbc X Y k
 have h:=gadd_core (wd X k) (wd Y k) (cyI X Y k) (wd_lo _ _) (wd_le _ _) (wd_lo _ _) (wd_le _ _) (by unfold cyI; omega) (by unfold cyI; omega) w
 have e1 : (wd X k + wd Y k + cyI X Y k) % 18446744073709551616 = wd (X + Y) k:=by
  unfold wd cyI; rw [dg_add zbc]; unfold w64; simp
 have e2 : (wd X k + wd Y k + cyI X Y k) / 18446744073709551616 = cyI X Y (k + 1):=by
  unfold wd cyI; rw [cy_succ zbc]; unfold w64; simp
 rw [e1,e2] at h
 exact h.mono fun _ _ ⟨a,b⟩ => ⟨a,b.symm⟩
theorem zep {X Z k : Nat} (_hk : k < 4) : ∀ i,i < 4 → (if i = k then Value.int .u64 (wd Z k) else Value.int .u64 (if i < k then wd Z i else wd X i)) = Value.int .u64 (if i < k + 1 then wd Z i else wd X i):=by
 intro i _
 by_cases h : i = k
 ·
  subst h; simp
 ·
  rw [if_neg h]; by_cases h2 : i < k
  ·
   rw [if_pos h2,if_pos (by omega)]
  ·
   rw [if_neg h2,if_neg (by omega)]
theorem cyI_one {X Y : Nat} (hX : X < top) (hY : Y < top) : (cyI X Y 4 == 1) = decide (top ≤ X + Y):=by
 unfold cyI
 rw [cy_top (n:=4) hX hY]
 show _ = decide (w64 ^ 4 ≤ X + Y)
 by_cases h : w64 ^ 4 ≤ X + Y <;> simp [h]
theorem plus_any (X Y : Nat) (hX : X < top) (hY : Y < top) (w : World) :
  Calls Tryz.prog 80 #[.agg #[vI vU (wd X 0),vI vU (wd X 1),vI vU (wd X 2),vI vU (wd X 3)],.agg #[vI vU (wd Y 0),vI vU (wd Y 1),vI vU (wd Y 2),vI vU (wd Y 3)]] w fun e w' => e = .returned (.tuple #[.agg #[vI vU (wd (X + Y) 0),vI vU (wd (X + Y) 1),vI vU (wd (X + Y) 2),vI vU (wd (X + Y) 3)],.bool (decide (top ≤ X + Y))]) ∧ Below w.heap.size w w':=by
 have HG:=veil (fun (k : Nat) (W : World) => gadd_at X Y k W)
 go_enter Tryz.func80,Tryz.ntmps80
 go_wp2
 go_loopw [6,7] (fun c i wr => ∃ k : Nat,k ≤ 4 ∧ i = .int .i64 k ∧ c = .int .u64 (cyI X Y k) ∧ wr.rowIs w.heap.size 26 4 (fun j => .int .u64 (if j < k then wd (X + Y) j else wd X j))
   ∧ wr.rowIs (w.heap.size + 1) 26 4 (fun j => .int .u64 (wd Y j)) ∧ wr.rowIs (w.heap.size + 1 + 1) 26 4 (fun _ => .int .u64 0) ∧ Below w.heap.size w wr)
  (fun _ i _ => 4 - (intOf i).toNat)
 case atStart => exact ⟨0,by omega,rfl,by simp [cyI,cy_zero],(((zag (n:=4) (by simp) rfl (arr4 fun j => .int .u64 (wd X j))).alloc _).alloc _).congr (fun j _ => by simp),(zag (n:=4) (by simp) rfl (arr4 fun j => .int .u64 (wd Y j))).alloc _,zag (n:=4) (by simp) rfl (arr4 fun _ => .int .u64 0),(((Below.refl _ _).alloc (by simp) _).alloc (by simp) _).alloc (by simp; omega) _⟩
 case round =>
  obtain ⟨k,hk,rfl,rfl,hRX,hRY,hRZ,hbel⟩:=hrel
  by_cases hlt : k < 4
  ·
   have c1:=hRX.cell hlt
   have c2:=hRY.cell hlt
   have f1:=hRX.frozen k
   rw [if_neg (by omega)] at c1
   go_wp2
   go_region_with (go_at_call 126; refine (HG.out _ _).mono ?_; rintro e w' ⟨rfl,rfl⟩)
   all_goals
    go_wp2
    go_roundw
    case rel => exact ⟨k + 1,by omega,by go_num,rfl,((hRX.set k _).congr (zep hlt)).drew,(zax hRY (by omega) _).drew,(zax hRZ (by omega) _).drew,(zat hbel (by omega) _).drew⟩
    case measure => simp [intOf]; omega
  ·
   obtain rfl : k = 4:=by omega
   obtain ⟨c0,c1,c2,c3⟩:=zac hRX
   obtain ⟨d0,d1,d2,d3⟩:=zac hRZ
   obtain ⟨f0,f1,f2,f3⟩:=zah hRZ
   simp only [show (0 : Nat) < 4 from by omega,show (1 : Nat) < 4 from by omega,show (2 : Nat) < 4 from by omega,show (3 : Nat) < 4 from by omega,if_true] at c0 c1 c2 c3
   have hz:=cyI_one hX hY
   clear hRX hRY
   go_wp2
   refine bodyPost_ret (zbz rfl _ _ (w.heap.size + 1 + 1) 26 #[vI vU (wd (X + Y) 0),vI vU (wd (X + Y) 1),vI vU (wd (X + Y) 2),vI vU (wd (X + Y) 3)] (0,0) 4 24 rfl (blk4 (put4 hRZ fun j => .int .u64 (wd (X + Y) j))) Tryz.underlying26 (by kernel_rfl)) rfl ⟨?_,zaj hbel (by omega) _ _ _ _⟩
   rfl
theorem zjb (X Y : Nat) (hX : X < top) (hY : Y < top) (w : World) :
  Calls Tryz.prog 80 #[.agg #[vI vU (wd X 0),vI vU (wd X 1),vI vU (wd X 2),vI vU (wd X 3)],.agg #[vI vU (wd Y 0),vI vU (wd Y 1),vI vU (wd Y 2),vI vU (wd Y 3)]] w fun e w' => e = .returned (.tuple #[.agg #[vI vU (wd ((X + Y) % top) 0),vI vU (wd ((X + Y) % top) 1),vI vU (wd ((X + Y) % top) 2),vI vU (wd ((X + Y) % top) 3)],.bool (decide (top ≤ X + Y))]) ∧ Below w.heap.size w w':=by
 rw [zey _ 0 (by omega),zey _ 1 (by omega),zey _ 2 (by omega),zey _ 3 (by omega)]
 exact plus_any X Y hX hY w
theorem lt_high {X Y m : Nat} (hX : X < top) (hY : Y < top) (hm : m < 4) (h : ∀ j,m < j → j < 4 → dg w64 X j = dg w64 Y j) (hne : dg w64 X m ≠ dg w64 Y m) : decide (X < Y) = decide (wd X m < wd Y m):=by
 have hc:=cmp_high w64 X Y 4 m zbc hX hY hm h hne
 unfold cmpN at hc
 unfold wd
 by_cases h1 : dg w64 X m < dg w64 Y m
 ·
  rw [if_pos h1] at hc
  by_cases h2 : X < Y
  ·
   simp [h1,h2]
  ·
   rw [if_neg h2] at hc; split at hc <;> omega
 ·
  rw [if_neg h1] at hc
  by_cases h2 : X < Y
  ·
   rw [if_pos h2] at hc; omega
  ·
   simp [h1,h2]
theorem less_calls (X Y : Nat) (hX : X < top) (hY : Y < top) (w : World) :
  Calls Tryz.prog 74 #[.agg #[vI vU (wd X 0),vI vU (wd X 1),vI vU (wd X 2),vI vU (wd X 3)],.agg #[vI vU (wd Y 0),vI vU (wd Y 1),vI vU (wd Y 2),vI vU (wd Y 3)]] w fun e w' => e = .returned (.bool (decide (X < Y))) ∧ Below w.heap.size w w':=by
 go_enter Tryz.func74,Tryz.ntmps74
 go_wp2
 go_loopw [5] (fun i wr => ∃ k : Nat,k ≤ 4 ∧ i = .int .i64 ((k : Int) - 1) ∧ (∀ j,k ≤ j → j < 4 → dg w64 X j = dg w64 Y j) ∧ wr.rowIs w.heap.size 26 4 (fun j => .int .u64 (wd X j))
   ∧ wr.rowIs (w.heap.size + 1) 26 4 (fun j => .int .u64 (wd Y j)) ∧ Below w.heap.size w wr)
  (fun i _ => (intOf i + 1).toNat)
 case atStart => exact ⟨4,by omega,rfl,by intro j h1 h2; omega,(zag (n:=4) (by simp) rfl (arr4 fun j => .int .u64 (wd X j))).alloc _,zag (n:=4) (by simp) rfl (arr4 fun j => .int .u64 (wd Y j)),((Below.refl _ _).alloc (by simp) _).alloc (by simp) _⟩
 case round =>
  obtain ⟨k,hk,hi,hall,hRX,hRY,hbel⟩:=hrel
  have HALL:=veil hall
  clear hall
  cases k with
  | zero =>
   subst hi
   have hXY : X = Y:=zib zbc hX hY fun j hj => HALL.out j (Nat.zero_le _) hj
   have HXY:=veil hXY
   clear hXY
   go_wp2
   go_ret
   rw [show decide (X < Y) = false by rw [HXY.out]; simp]
   exact ⟨rfl,hbel⟩
  | succ m =>
   obtain rfl : _ = Value.int .i64 (m : Int):=hi.trans (by congr 1; omega)
   have hm : m < 4:=by omega
   go_wp2
   have c1:=hRX.cell hm
   have c2:=hRY.cell hm
   by_cases h : dg w64 X m = dg w64 Y m
   ·
    have hne : (wd X m != wd Y m) = false:=by unfold wd; rw [h]; simp
    go_quiet (fail)
    go_wp2
    go_roundw
    case rel => exact ⟨m,by omega,by go_num,fun j h1 h2 => by
     by_cases e : j = m
     ·
      rw [e]; exact h
     ·
      exact HALL.out j (by omega) h2,zbw hRX _,zbw hRY _,zbk hbel _⟩
    case measure => simp [intOf]
   ·
    have hne : (wd X m != wd Y m) = true:=by rw [bne_iff_ne]; unfold wd; omega
    have HC:=veil (lt_high hX hY hm (fun j h1 h2 => HALL.out j (by omega) h2) h)
    clear h
    go_quiet (fail)
    go_wp2
    go_quiet (fail)
    go_wp2
    go_ret
    rw [HC.out]
    exact ⟨rfl,zbk (zbk hbel _) _⟩
theorem dg_ones {B : Nat} (hB : 0 < B) (n i : Nat) (hi : i < n) : dg B (B ^ n - 1) i = B - 1:=by
 obtain ⟨d,rfl⟩ : ∃ d,n = i + (d + 1):=⟨n - i - 1,by omega⟩
 have hp : 0 < B ^ i:=Nat.pow_pos hB
 have hd : 0 < B ^ d:=Nat.pow_pos hB
 have e : B ^ (i + (d + 1)) - 1 = (B ^ i - 1) + B ^ i * (B ^ (d + 1) - 1):=by
  rw [Nat.pow_add,Nat.mul_sub,Nat.mul_one]
  have : B ^ i ≤ B ^ i * B ^ (d + 1):=Nat.le_mul_of_pos_right _ (Nat.pow_pos hB)
  omega
 have e2 : B ^ (d + 1) - 1 = (B - 1) + B * (B ^ d - 1):=by
  rw [Nat.pow_succ,Nat.mul_comm,Nat.mul_sub,Nat.mul_one]
  have : B ≤ B * B ^ d:=Nat.le_mul_of_pos_right _ hd
  omega
 unfold dg
 rw [e,Nat.add_mul_div_left _ _ hp,Nat.div_eq_of_lt (by omega),Nat.zero_add,e2,Nat.add_mul_mod_self_left,Nat.mod_eq_of_lt (by omega)]
theorem dg_comp {B : Nat} (hB : 0 < B) (Y n i : Nat) (hi : i < n) (hY : Y < B ^ n) : dg B (B ^ n - 1 - Y) i = B - 1 - dg B Y i:=by
 have h:=dg_sub hB (B ^ n - 1) Y n i hi (Nat.le_of_lt hY)
 have e : dg B (B ^ n - 1 + B ^ n - Y) i = dg B (B ^ n - 1 - Y) i:=by
  rw [show B ^ n - 1 + B ^ n - Y = (B ^ n - 1 - Y) + B ^ n by omega,← zdi _ n i hi,Nat.add_mod_right,zdi _ n i hi]
 have hb : bw B (B ^ n - 1) Y i = 0:=by
  have hp : 0 < B ^ i:=Nat.pow_pos hB
  unfold bw
  have e2 : (B ^ n - 1) % B ^ i = B ^ i - 1:=by
   obtain ⟨d,rfl⟩ : ∃ d,n = i + d:=⟨n - i,by omega⟩
   have : B ^ i ≤ B ^ i * B ^ d:=Nat.le_mul_of_pos_right _ (Nat.pow_pos hB)
   rw [Nat.pow_add,show B ^ i * B ^ d - 1 = (B ^ i - 1) + B ^ i * (B ^ d - 1) by rw [Nat.mul_sub,Nat.mul_one]; omega,Nat.add_mul_mod_self_left,Nat.mod_eq_of_lt (by omega)]
  have h1:=Nat.mod_lt Y hp
  rw [e2,if_neg (by omega)]
 have hl:=dg_lt hB Y i
 rw [e,hb,dg_ones hB n i hi] at h
 rw [h,Nat.mod_eq_sub_mod (by omega),Nat.mod_eq_of_lt (by omega)]
 omega
theorem wd_comp {Y i : Nat} (hY : Y < top) (hi : i < 4) : 18446744073709551615 - wd Y i = wd (top - 1 - Y) i:=by
 have h:=dg_comp zbc Y 4 i hi hY
 have hl:=dg_lt zbc Y i
 unfold wd top
 rw [h]
 unfold w64 at *
 omega
theorem minus_num {X Y : Nat} (hY : Y < top) : ((X + (top - 1 - Y)) % top + 1) % top = (X + top - Y) % top:=by
 rw [Nat.mod_add_mod,show X + (top - 1 - Y) + 1 = X + top - Y by omega]
theorem minus_calls (X Y : Nat) (hX : X < top) (hY : Y < top) (w : World) :
  Calls Tryz.prog 77 #[.agg #[vI vU (wd X 0),vI vU (wd X 1),vI vU (wd X 2),vI vU (wd X 3)],.agg #[vI vU (wd Y 0),vI vU (wd Y 1),vI vU (wd Y 2),vI vU (wd Y 3)]] w fun e w' => e = .returned (.agg #[vI vU (wd ((X + top - Y) % top) 0),vI vU (wd ((X + top - Y) % top) 1),vI vU (wd ((X + top - Y) % top) 2),vI vU (wd ((X + top - Y) % top) 3)]) ∧ Below w.heap.size w w':=by
 obtain ⟨D,hD⟩ : ∃ D,D = (X + top - Y) % top:=⟨_,rfl⟩
 rw [← hD]
 have HD:=veil hD
 clear hD
 go_enter Tryz.func77,Tryz.ntmps77
 go_wp2
 go_loopw [5] (fun i wr => ∃ k : Nat,k ≤ 4 ∧ i = .int .i64 k ∧ wr.rowIs w.heap.size 26 4 (fun j => .int .u64 (wd X j))
   ∧ wr.rowIs (w.heap.size + 1) 26 4 (fun j => .int .u64 (if j < k then wd (top - 1 - Y) j else wd Y j)) ∧ wr.rowIs (w.heap.size + 1 + 1) 26 4 (fun _ => .int .u64 0) ∧ Below w.heap.size w wr)
  (fun i _ => 4 - (intOf i).toNat)
 case atStart => exact ⟨0,by omega,rfl,((zag (n:=4) (by simp) rfl (arr4 fun j => .int .u64 (wd X j))).alloc _).alloc _,((zag (n:=4) (by simp) rfl (arr4 fun j => .int .u64 (wd Y j))).alloc _).congr (fun j _ => by simp),zag (n:=4) (by simp) rfl (arr4 fun _ => .int .u64 0),(((Below.refl _ _).alloc (by simp) _).alloc (by simp) _).alloc (by simp; omega) _⟩
 case round =>
  obtain ⟨k,hk,rfl,hRX,hRY,hRZ,hbel⟩:=hrel
  by_cases hlt : k < 4
  ·
   have c2:=hRY.cell hlt
   have f2:=hRY.frozen k
   rw [if_neg (by omega)] at c2
   have l1:=wd_lo Y k
   have u1:=wd_le Y k
   have HC:=veil (wd_comp hY hlt)
   go_wp2
   go_roundw
   case rel =>
    rw [HC.out]
    exact ⟨k + 1,by omega,by go_num,zax hRX (by omega) _,(hRY.set k _).congr (zep hlt),zax hRZ (by omega) _,zat hbel (by omega) _⟩
   case measure => simp [intOf]; omega
  ·
   obtain rfl : k = 4:=by omega
   have hRY:=hRY.congr (g:=fun j => .int .u64 (wd (top - 1 - Y) j)) (fun j hj => by rw [if_pos hj])
   obtain ⟨c0,c1,c2,c3⟩:=zac hRX
   obtain ⟨b0,b1,b2,b3⟩:=zac hRY
   obtain ⟨S,hS⟩ : ∃ S,S = (X + (top - 1 - Y)) % top:=⟨_,rfl⟩
   have hSt : S < top:=by rw [hS]; exact Nat.mod_lt _ zce
   have h1:=fun W => zjb X (top - 1 - Y) hX (by omega) W
   have h2:=fun W => zjb S 1 hSt (by decide) W
   rw [← hS] at h1
   rw [hS,minus_num hY,← hS,← HD.out] at h2
   have H1:=veil h1
   have o0 : wd 1 0 = 1:=by decide
   have o1 : wd 1 1 = 0:=by decide
   have o2 : wd 1 2 = 0:=by decide
   have o3 : wd 1 3 = 0:=by decide
   rw [o0,o1,o2,o3] at h2
   have H2:=veil h2
   clear h1 h2 hS o0 o1 o2 o3
   go_wp2_with fail
   refine (H1.out _).mono ?_
   rintro e w3 ⟨rfl,hb3⟩
   clear c0 c1 c2 c3 b0 b1 b2 b3
   have hRZ3:=zab hRZ hb3 hRZ.lt
   have hB3:=hbel.trans (hb3.mono hbel.size)
   have hS4 : (w3.alloc (.cells #[vI vU (wd S 0),vI vU (wd S 1),vI vU (wd S 2),vI vU (wd S 3)] 26)).rowIs w3.heap.size 26 4 (fun j => .int .u64 (wd S j)):=zag (n:=4) rfl rfl (arr4 fun j => .int .u64 (wd S j))
   have hRZ4:=hRZ3.alloc (.cells #[vI vU (wd S 0),vI vU (wd S 1),vI vU (wd S 2),vI vU (wd S 3)] 26)
   have hB4:=hB3.alloc hB3.size (.cells #[vI vU (wd S 0),vI vU (wd S 1),vI vU (wd S 2),vI vU (wd S 3)] 26)
   have nz:=hRZ3.lt
   clear hRX hRY hRZ hbel hb3 hRZ3 hB3
   go_wp2_with fail
   refine (H2.out _).mono ?_
   rintro e w5 ⟨rfl,hb5⟩
   have hS5:=zab hS4 hb5 hS4.lt
   have hRZ5:=zab hRZ4 hb5 hRZ4.lt
   have hB5:=hB4.trans (hb5.mono hB4.size)
   clear hS4 hRZ4 hB4 hb5
   obtain ⟨t0,t1,t2,t3⟩:=zah hS5
   obtain ⟨v0,v1,v2,v3⟩:=zac hS5
   go_upto_region 7 with (fail)
   have hTz:=put4 hS5 (fun j => .int .u64 (wd D j))
   have hZz:=zai hRZ5 (Nat.ne_of_lt nz) (.int .u64 (wd D 0)) (.int .u64 (wd D 1)) (.int .u64 (wd D 2)) (.int .u64 (wd D 3))
   have hBz:=zaj (b:=w3.heap.size) hB5 (by omega) (.int .u64 (wd D 0)) (.int .u64 (wd D 1)) (.int .u64 (wd D 2)) (.int .u64 (wd D 3))
   clear v0 v1 v2 v3 t0 t1 t2 t3 hS5 hRZ5 hB5
   generalize ((((w5.setCell ⟨w3.heap.size,0,none⟩ (.int .u64 (wd D 0))).setCell ⟨w3.heap.size,1,none⟩ (.int .u64 (wd D 1))).setCell ⟨w3.heap.size,2,none⟩ (.int .u64 (wd D 2))).setCell ⟨w3.heap.size,3,none⟩ (.int .u64 (wd D 3))) = wz at *
   obtain ⟨p0,p1,p2,p3⟩:=zac hTz
   obtain ⟨d0,d1,d2,d3⟩:=zac hZz
   obtain ⟨f0,f1,f2,f3⟩:=zah hZz
   go_wp2
   refine bodyPost_ret (results_cell_row rfl _ _ (w.heap.size + 1 + 1) 26 #[vI vU (wd D 0),vI vU (wd D 1),vI vU (wd D 2),vI vU (wd D 3)] (0,0) _ rfl (blk4 (put4 hZz fun j => .int .u64 (wd D j))) Tryz.underlying26 rfl (by kernel_rfl)) rfl ⟨rfl,zaj hBz (by omega) _ _ _ _⟩
theorem gsum_num {X Y M : Nat} (hX : X < M) (hY : Y < M) (hM : M ≤ top) : (X + Y) % M = if top ≤ X + Y ∨ ¬ (X + Y) % top < M then ((X + Y) % top + top - M) % top else (X + Y) % top:=by
 generalize top = t at *
 by_cases h : t ≤ X + Y
 ·
  rw [if_pos (Or.inl h),Nat.mod_eq_sub_mod (show t ≤ X + Y from h),Nat.mod_eq_of_lt (show X + Y - t < t by omega),show X + Y - t + t - M = X + Y - M by omega,Nat.mod_eq_of_lt (show X + Y - M < t by omega)]
  rw [Nat.mod_eq_sub_mod (by omega),Nat.mod_eq_of_lt (by omega)]
 ·
  rw [Nat.mod_eq_of_lt (show X + Y < t by omega)]
  by_cases h2 : X + Y < M
  ·
   rw [if_neg (by omega),Nat.mod_eq_of_lt h2]
  ·
   rw [if_pos (Or.inr h2),Nat.mod_eq_sub_mod (show M ≤ X + Y by omega),Nat.mod_eq_of_lt (show X + Y - M < M by omega),show X + Y + t - M = (X + Y - M) + t by omega,Nat.add_mod_right,Nat.mod_eq_of_lt (by omega)]
theorem zir (X Y Z : Nat) (u : Bool) (h : (X + Y) % top = Z) (h2 : decide (top ≤ X + Y) = u) (hX : X < top) (hY : Y < top) (w : World) :
  Calls Tryz.prog 80 #[.agg #[vI vU (wd X 0),vI vU (wd X 1),vI vU (wd X 2),vI vU (wd X 3)],.agg #[vI vU (wd Y 0),vI vU (wd Y 1),vI vU (wd Y 2),vI vU (wd Y 3)]] w fun e w' => e = .returned (.tuple #[.agg #[vI vU (wd Z 0),vI vU (wd Z 1),vI vU (wd Z 2),vI vU (wd Z 3)],.bool u]) ∧ Below w.heap.size w w':=by
 subst h; subst h2; exact zjb X Y hX hY w
theorem zge (X Y : Nat) (u : Bool) (h : decide (X < Y) = u) (hX : X < top) (hY : Y < top) (w : World) :
  Calls Tryz.prog 74 #[.agg #[vI vU (wd X 0),vI vU (wd X 1),vI vU (wd X 2),vI vU (wd X 3)],.agg #[vI vU (wd Y 0),vI vU (wd Y 1),vI vU (wd Y 2),vI vU (wd Y 3)]] w fun e w' => e = .returned (.bool u) ∧ Below w.heap.size w w':=by
 subst h; exact less_calls X Y hX hY w
theorem zgs (X Y Z : Nat) (h : (X + top - Y) % top = Z) (hX : X < top) (hY : Y < top) (w : World) :
  Calls Tryz.prog 77 #[.agg #[vI vU (wd X 0),vI vU (wd X 1),vI vU (wd X 2),vI vU (wd X 3)],.agg #[vI vU (wd Y 0),vI vU (wd Y 1),vI vU (wd Y 2),vI vU (wd Y 3)]] w fun e w' => e = .returned (.agg #[vI vU (wd Z 0),vI vU (wd Z 1),vI vU (wd Z 2),vI vU (wd Z 3)]) ∧ Below w.heap.size w w':=by
 subst h; exact minus_calls X Y hX hY w
end Go.Proofs.YtedehdbajiaaiaaGreatDoor
