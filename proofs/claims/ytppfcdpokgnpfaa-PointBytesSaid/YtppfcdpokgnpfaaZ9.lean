/-
  Merged: C1 C2 C3 C5 C4 C7.
-/
import Derived.Test.YtppfcdpokgnpfaaZ8
import Derived.Test.YtppfcdpokgnpfaaZ4
import Derived.Test.YtppfcdpokgnpfaaZ5
import Derived.Test.YtppfcdpokgnpfaaZ7

/-
  What the curve's code asks of the field: numbers below p as elements, and calls of the field's methods by value.
-/
namespace Go.Proofs.Ytppfcdpokgnpfaa
open Go.RowKit

/-- The field of p lies in block b. -/
def Fp (w : World) (b : Nat) : Prop := ∃ N Q, Fok Pt.pp N Q ∧ Fb w b Pt.pp N Q
theorem Fp.ext {w w' : World} {b : Nat} (h : Fp w b) (k : Ext w w') : Fp w' b := by
  obtain ⟨N, Q, h1, h2⟩ := h
  exact ⟨N, Q, h1, h2.call k⟩
theorem Fp.lt {w : World} {b : Nat} (h : Fp w b) : b < w.heap.size := by
  obtain ⟨N, Q, h1, h2⟩ := h
  exact h2.lt

abbrev Fe := Fin Pt.pp
/-- A number; a scaled point; a point; the curve: their cells, and as values. -/
def nc (x : Nat) : Array Value := #[.int .u64 (wd (x) 0), .int .u64 (wd (x) 1), .int .u64 (wd (x) 2), .int .u64 (wd (x) 3)]
def nv (x : Nat) : Value := .agg (nc x)
def sc (x y z : Nat) : Array Value := #[.int .u64 (wd x 0), .int .u64 (wd x 1), .int .u64 (wd x 2), .int .u64 (wd x 3), .int .u64 (wd y 0), .int .u64 (wd y 1), .int .u64 (wd y 2), .int .u64 (wd y 3), .int .u64 (wd z 0), .int .u64 (wd z 1), .int .u64 (wd z 2), .int .u64 (wd z 3)]
def sv (x y z : Nat) : Value := .agg (sc x y z)
def qc (x y : Nat) (f : Bool) : Array Value := #[.int .u64 (wd (x) 0), .int .u64 (wd (x) 1), .int .u64 (wd (x) 2), .int .u64 (wd (x) 3), .int .u64 (wd (y) 0), .int .u64 (wd (y) 1), .int .u64 (wd (y) 2), .int .u64 (wd (y) 3), .bool (f)]
def qv (x y : Nat) (f : Bool) : Value := .agg (qc x y f)
def fv (k b : Nat) : Value := .func (.func k) #[ptrTo b] #[]
def cc (b : Nat) : Array Value := #[fv 58 b, fv 59 b, fv 60 b, fv 61 b]
def cv (b : Nat) : Value := .agg (cc b)

theorem nc_one (x : Nat) : (nc x).all (·.oneCell') = true := by simp [nc, Value.oneCell']
theorem sc_one (x y z : Nat) : (sc x y z).all (·.oneCell') = true := by simp [sc, Value.oneCell']
theorem qc_one (x y : Nat) (f : Bool) : (qc x y f).all (·.oneCell') = true := by simp [qc, Value.oneCell']
theorem cc_one (b : Nat) : (cc b).all (·.oneCell') = true := by simp [cc, fv, Value.oneCell']
theorem iN (x : Nat) : (Try.prog.info? 24).map (·.size) = some (nc x).size := by exact info_num
theorem iS (x y z : Nat) : (Try.prog.info? 64).map (·.size) = some (sc x y z).size := by kernel_rfl
theorem iT (x y : Nat) (f : Bool) : (Try.prog.info? 26).map (·.size) = some (qc x y f).size := by kernel_rfl
theorem iK (b : Nat) : (Try.prog.info? 60).map (·.size) = some (cc b).size := by kernel_rfl

theorem fe_top (x : Fe) : x.val < top := Nat.lt_trans x.isLt pp_top
theorem fe_mod (x : Fe) : x.val % Pt.pp = x.val := Nat.mod_eq_of_lt x.isLt
theorem kadd_p {b : Nat} {x y t : Fe} (ht : t = x + y) {w : World} (hF : Fp w b) : Calls Try.prog 58 #[ptrTo b, nv x.val, nv y.val] w fun e w' => e = .returned (nv t.val) ∧ Ext w w' := by
  obtain ⟨N, Q, h1, h2⟩ := hF
  exact fadd2_calls b x.val y.val Pt.pp N Q t.val (fe_top x) (fe_top y) h1 (by rw [fe_mod, fe_mod, Pt.v_add, ht]) w h2
theorem ksub_p {b : Nat} {x y t : Fe} (ht : t = x - y) {w : World} (hF : Fp w b) : Calls Try.prog 59 #[ptrTo b, nv x.val, nv y.val] w fun e w' => e = .returned (nv t.val) ∧ Ext w w' := by
  obtain ⟨N, Q, h1, h2⟩ := hF
  exact fsub2_calls b x.val y.val Pt.pp N Q t.val (fe_top x) (fe_top y) h1 (by rw [fe_mod, fe_mod, Pt.v_sub, ht]) w h2
theorem kmul_p {b : Nat} {x y t : Fe} (ht : t = x * y) {w : World} (hF : Fp w b) : Calls Try.prog 60 #[ptrTo b, nv x.val, nv y.val] w fun e w' => e = .returned (nv t.val) ∧ Ext w w' := by
  obtain ⟨N, Q, h1, h2⟩ := hF
  exact fmul2_calls b x.val y.val Pt.pp N Q t.val (fe_top x) (fe_top y) h1 (by rw [Pt.v_mul, ht]) w h2
theorem kinv_p {b : Nat} {x t : Fe} (hx : x ≠ 0) (ht : t = Pt.E256.inv x) {w : World} (hF : Fp w b) : Calls Try.prog 61 #[ptrTo b, nv x.val] w fun e w' => e = .returned (.tuple #[nv t.val, .nilIface]) ∧ Ext w w' := by
  obtain ⟨N, Q, h1, h2⟩ := hF
  refine (finv_calls b x.val Pt.pp N Q (fe_top x) h1 w h2).mono ?_
  rintro e w' ⟨⟨y, hy, hi, rfl⟩, hb⟩
  have hg := Pt.v_gcd hx
  rw [invRet_one hg, Pt.v_inv hy (hi hg), ht]
  exact ⟨rfl, hb⟩
theorem kinv_z {b : Nat} {w : World} (hF : Fp w b) : Calls Try.prog 61 #[ptrTo b, nv 0] w fun e w' => e = .returned (.tuple #[nv 0, .iface 37 (.int .i64 4)]) ∧ Ext w w' := by
  obtain ⟨N, Q, h1, h2⟩ := hF
  refine (finv_calls b 0 Pt.pp N Q (Nat.two_pow_pos 256) h1 w h2).mono ?_
  rintro e w' ⟨⟨y, hy, hi, rfl⟩, hb⟩
  have hg : ¬ Nat.gcd 0 Pt.pp = 1 := by rw [Nat.gcd_zero_left]; decide +kernel
  rw [invRet_no hg]
  exact ⟨rfl, hb⟩

/-! ### operations -/
section
variable {P : Program} {o : Oper} {a : Act} {w : World}
theorem run_callFunc_in {f : FuncId} {fn : Func} {c : Code} (hf : P.funcs[f]? = some fn) (hname : (fn.name == "runtime.NumGoroutine") = false) (hb : fn.body = some c) (args : Array Value) (w : World) :
    (callFunc f args).run P w = .ok (.enter f args) w := by
  have hn : ¬ fn.name = "runtime.NumGoroutine" := by simpa using hname
  simp [callFunc, go_sem, hf, hb, hn]
theorem made_fun {k : FuncId} {xs : List Operand} {ts : Array TypeId} {args : List Value} {v : Value} (ho : o.op = .call { callee := .value (.func k), args := xs.toArray, argTypes := ts }) (hx : xs.map a.eval = args)
    (he : ∀ W, (callFunc k args.toArray).run P W = .ok (.enter k args.toArray) W) (hc : ∀ W, Ext w W → Calls P k args.toArray W fun e W' => e = .returned v ∧ Ext W W') : Made P o v a w :=
  made_call (fun W => by
    have h1 : execOp a.eval o = callFunc k (#[] ++ xs.toArray.map a.eval ++ #[]) := by
      cases o
      subst ho
      rfl
    rw [h1, List.map_toArray, hx]
    simpa using he W) hc
theorem made_by {k : FuncId} {xs : List Operand} {ts : Array TypeId} {args : List Value} {v p : Value} {f : Tmp} (ho : o.op = .call { callee := .value (.tmp f), args := xs.toArray, argTypes := ts }) (hf : a.eval (.tmp f) = .func (.func k) #[p] #[]) (hx : xs.map a.eval = args)
    (he : ∀ W, (callFunc k (p :: args).toArray).run P W = .ok (.enter k (p :: args).toArray) W) (hc : ∀ W, Ext w W → Calls P k (p :: args).toArray W fun e W' => e = .returned v ∧ Ext W W') : Made P o v a w :=
  made_call (fun W => by
    unfold execOp
    simp only [ho, resolve, hf, List.map_toArray, hx, Deferred.ofValue, Sem.run_bind, Sem.run_pure, Result.andThen_ok, invoke]
    simpa using he W) hc
end

theorem isn_func (W : World) : (isAgg 56).run Try.prog W = .ok false W := by simp [isAgg, go_sem]
theorem isn_inv (W : World) : (isAgg 58).run Try.prog W = .ok false W := by simp [isAgg, go_sem]
theorem isn_bool (W : World) : (isAgg 4).run Try.prog W = .ok false W := by simp [isAgg, go_sem]
theorem uN : Try.prog.underlying 24 = some (.array 4 22) := Try.underlying24
section
variable (g : Nat) (W : World)
theorem fldK0 : (Instr.fieldAt 60 (ptrTo g) 0).run Try.prog W = .ok (.pointer (some ⟨g, 0, none⟩)) W := by simp [Instr.fieldAt, go_sem]
theorem fldK1 : (Instr.fieldAt 60 (ptrTo g) 1).run Try.prog W = .ok (.pointer (some ⟨g, 1, none⟩)) W := by simp [Instr.fieldAt, go_sem]
theorem fldK2 : (Instr.fieldAt 60 (ptrTo g) 2).run Try.prog W = .ok (.pointer (some ⟨g, 2, none⟩)) W := by simp [Instr.fieldAt, go_sem]
theorem fldK3 : (Instr.fieldAt 60 (ptrTo g) 3).run Try.prog W = .ok (.pointer (some ⟨g, 3, none⟩)) W := by simp [Instr.fieldAt, go_sem]
theorem fldS0 : (Instr.fieldAt 64 (ptrTo g) 0).run Try.prog W = .ok (.pointer (some ⟨g, 0, none⟩)) W := by simp [Instr.fieldAt, go_sem]
theorem fldS1 : (Instr.fieldAt 64 (ptrTo g) 1).run Try.prog W = .ok (.pointer (some ⟨g, 4, none⟩)) W := by simp [Instr.fieldAt, go_sem]
theorem fldS2 : (Instr.fieldAt 64 (ptrTo g) 2).run Try.prog W = .ok (.pointer (some ⟨g, 8, none⟩)) W := by simp [Instr.fieldAt, go_sem]
theorem fldT0 : (Instr.fieldAt 26 (ptrTo g) 0).run Try.prog W = .ok (.pointer (some ⟨g, 0, none⟩)) W := by simp [Instr.fieldAt, go_sem]
theorem fldT1 : (Instr.fieldAt 26 (ptrTo g) 1).run Try.prog W = .ok (.pointer (some ⟨g, 4, none⟩)) W := by simp [Instr.fieldAt, go_sem]
theorem fldT2 : (Instr.fieldAt 26 (ptrTo g) 2).run Try.prog W = .ok (.pointer (some ⟨g, 8, none⟩)) W := by simp [Instr.fieldAt, go_sem]
theorem hzN : (Instr.alloc 24 true (.tuple #[])).run Try.prog W = .ok (ptrTo W.heap.size) (W.alloc (.cells #[.int .u64 0, .int .u64 0, .int .u64 0, .int .u64 0] 24)) := by simp [Instr.alloc, go_sem]
theorem hzS : (Instr.alloc 64 true (.tuple #[])).run Try.prog W = .ok (ptrTo W.heap.size) (W.alloc (.cells #[.int .u64 0, .int .u64 0, .int .u64 0, .int .u64 0, .int .u64 0, .int .u64 0, .int .u64 0, .int .u64 0, .int .u64 0, .int .u64 0, .int .u64 0, .int .u64 0] 64)) := by simp [Instr.alloc, go_sem]
theorem hzT : (Instr.alloc 26 true (.tuple #[])).run Try.prog W = .ok (ptrTo W.heap.size) (W.alloc (.cells #[.int .u64 0, .int .u64 0, .int .u64 0, .int .u64 0, .int .u64 0, .int .u64 0, .int .u64 0, .int .u64 0, .bool false] 26)) := by simp [Instr.alloc, go_sem]
theorem hzK : (Instr.alloc 60 true (.tuple #[])).run Try.prog W = .ok (ptrTo W.heap.size) (W.alloc (.cells #[.nilFunc, .nilFunc, .nilFunc, .nilFunc] 60)) := by simp [Instr.alloc, go_sem]
theorem bldS (x y z : Nat) : (Instr.build 64 [(0, nv x), (1, nv y), (2, nv z)].toArray).run Try.prog W = .ok (sv x y z) W := by simp [Instr.build, go_sem, nv, nc, sv, sc]
theorem bldT (x y : Nat) : (Instr.build 26 [(0, nv x), (1, nv y)].toArray).run Try.prog W = .ok (qv x y false) W := by simp [Instr.build, go_sem, nv, nc, qv, qc]
theorem bldK (b : Nat) : (Instr.build 60 [(0, fv 58 b), (1, fv 59 b), (2, fv 60 b), (3, fv 61 b)].toArray).run Try.prog W = .ok (cv b) W := by simp [Instr.build, go_sem, fv, cv, cc]
theorem wd_z : wd 0 0 = 0 ∧ wd 0 1 = 0 ∧ wd 0 2 = 0 ∧ wd 0 3 = 0 := by decide
theorem bldS0 : (Instr.build 64 [].toArray).run Try.prog W = .ok (sv 0 0 0) W := by
  obtain ⟨h0, h1, h2, h3⟩ := wd_z
  unfold sv sc
  rw [h0, h1, h2, h3]
  simp [Instr.build, go_sem]
theorem bldN0 : (Instr.build 24 [].toArray).run Try.prog W = .ok (nv 0) W := by
  obtain ⟨h0, h1, h2, h3⟩ := wd_z
  unfold nv nc
  rw [h0, h1, h2, h3]
  simp [Instr.build, go_sem]
theorem bldT0 : (Instr.build 26 [].toArray).run Try.prog W = .ok (qv 0 0 false) W := by
  obtain ⟨h0, h1, h2, h3⟩ := wd_z
  unfold qv qc
  rw [h0, h1, h2, h3]
  simp [Instr.build, go_sem]
theorem bldN1 : (Instr.build 24 [(0, .int .u64 1)].toArray).run Try.prog W = .ok (nv 1) W := by
  unfold nv nc
  rw [show wd 1 0 = 1 by decide, show wd 1 1 = 0 by decide, show wd 1 2 = 0 by decide, show wd 1 3 = 0 by decide]
  simp [Instr.build, go_sem]
theorem bldGx : (Instr.build 24 [(0, .int .u64 17627433388654248598), (1, .int .u64 8575836109218198432), (2, .int .u64 17923454489921339634), (3, .int .u64 7716867327612699207)].toArray).run Try.prog W = .ok (nv Pt.gx) W := by
  obtain ⟨h0, h1, h2, h3⟩ := gx_lits
  unfold nv nc
  rw [h0, h1, h2, h3]
  simp [Instr.build, go_sem]
theorem bldGy : (Instr.build 24 [(0, .int .u64 14678990851816772085), (1, .int .u64 3156516839386865358), (2, .int .u64 10297457778147434006), (3, .int .u64 5756518291402817435)].toArray).run Try.prog W = .ok (nv Pt.gy) W := by
  obtain ⟨h0, h1, h2, h3⟩ := gy_lits
  unfold nv nc
  rw [h0, h1, h2, h3]
  simp [Instr.build, go_sem]
theorem bldTF : (Instr.build 26 [(2, .bool true)].toArray).run Try.prog W = .ok (qv 0 0 true) W := by
  obtain ⟨h0, h1, h2, h3⟩ := wd_z
  unfold qv qc
  rw [h0, h1, h2, h3]
  simp [Instr.build, go_sem]
end
theorem heap_is {w : World} {o : Obj} {k : Nat} (hk : k = w.heap.size) : (w.alloc o).heap[k]? = some o := by subst hk; exact heap_new w o
theorem blocks1 (w : World) (A : Obj) : Ext w (w.alloc A) ∧ (w.alloc A).heap[w.heap.size]? = some A := ⟨Ext.alloc _ _, heap_is rfl⟩
theorem blocks2 (w : World) (A B : Obj) : Ext w ((w.alloc A).alloc B) ∧ ((w.alloc A).alloc B).heap[w.heap.size]? = some A ∧ ((w.alloc A).alloc B).heap[w.heap.size + 1]? = some B :=
  ⟨(Ext.alloc _ _).trans (Ext.alloc _ _), (Ext.alloc _ _).block (heap_is rfl), heap_is (by simp)⟩
theorem blocks3 (w : World) (A B C : Obj) : Ext w (((w.alloc A).alloc B).alloc C) ∧ (((w.alloc A).alloc B).alloc C).heap[w.heap.size]? = some A ∧ (((w.alloc A).alloc B).alloc C).heap[w.heap.size + 1]? = some B ∧ (((w.alloc A).alloc B).alloc C).heap[w.heap.size + 1 + 1]? = some C :=
  ⟨(Ext.alloc _ _).trans ((Ext.alloc _ _).trans (Ext.alloc _ _)), ((Ext.alloc _ _).trans (Ext.alloc _ _)).block (heap_is rfl), (Ext.alloc _ _).block (heap_is (by simp)), heap_is (by simp)⟩
theorem blocks4 (w : World) (A B C D : Obj) : Ext w ((((w.alloc A).alloc B).alloc C).alloc D) ∧ ((((w.alloc A).alloc B).alloc C).alloc D).heap[w.heap.size]? = some A ∧ ((((w.alloc A).alloc B).alloc C).alloc D).heap[w.heap.size + 1]? = some B ∧ ((((w.alloc A).alloc B).alloc C).alloc D).heap[w.heap.size + 1 + 1]? = some C ∧ ((((w.alloc A).alloc B).alloc C).alloc D).heap[w.heap.size + 1 + 1 + 1]? = some D :=
  ⟨(Ext.alloc _ _).trans ((Ext.alloc _ _).trans ((Ext.alloc _ _).trans (Ext.alloc _ _))), ((Ext.alloc _ _).trans ((Ext.alloc _ _).trans (Ext.alloc _ _))).block (heap_is rfl), ((Ext.alloc _ _).trans (Ext.alloc _ _)).block (heap_is (by simp)), (Ext.alloc _ _).block (heap_is (by simp)), heap_is (by simp)⟩
theorem Ext.new {w w1 W : World} {r : Nat} (h : Ext w w1) (k : But r w1 W) (hr : w.heap.size ≤ r) : Ext w W := Below.trans h (k.new hr (Below.size h))
theorem he_kAdd (args : Array Value) (W : World) : (callFunc 58 args).run Try.prog W = .ok (.enter 58 args) W := run_callFunc_in Try.func58 rfl rfl args W
theorem he_kSub (args : Array Value) (W : World) : (callFunc 59 args).run Try.prog W = .ok (.enter 59 args) W := run_callFunc_in Try.func59 rfl rfl args W
theorem he_kMul (args : Array Value) (W : World) : (callFunc 60 args).run Try.prog W = .ok (.enter 60 args) W := run_callFunc_in Try.func60 rfl rfl args W
theorem he_kInv (args : Array Value) (W : World) : (callFunc 61 args).run Try.prog W = .ok (.enter 61 args) W := run_callFunc_in Try.func61 rfl rfl args W
end Go.Proofs.Ytppfcdpokgnpfaa


/-
  point.curve: twice and thrice a number.
-/
namespace Go.Proofs.Ytppfcdpokgnpfaa
open Go.RowKit

set_option maxRecDepth 100000 in
set_option maxHeartbeats 8000000 in
theorem dbl_calls {b : Nat} {x t : Fe} (ht : t = x + x) {w : World} (hF : Fp w b) :
    Calls Try.prog 66 #[cv b, nv x.val] w fun e w' => e = .returned (nv t.val) ∧ Ext w w' := by
  have kt := veil ht
  clear ht
  unfold cv nv cc fv nc
  go_enter Try.func66, Try.ntmps66
  go_upto_region 1 with (fail)
  obtain ⟨hx, b0, b1, b2⟩ := blocks3 w (.cells #[.func (.func 58) #[ptrTo b] #[], .func (.func 59) #[ptrTo b] #[], .func (.func 60) #[ptrTo b] #[], .func (.func 61) #[ptrTo b] #[]] 60) (.cells #[.int .u64 (wd (x.val) 0), .int .u64 (wd (x.val) 1), .int .u64 (wd (x.val) 2), .int .u64 (wd (x.val) 3)] 24) (.cells #[.int .u64 0, .int .u64 0, .int .u64 0, .int .u64 0] 24)
  generalize ((w.alloc (.cells #[.func (.func 58) #[ptrTo b] #[], .func (.func 59) #[ptrTo b] #[], .func (.func 60) #[ptrTo b] #[], .func (.func 61) #[ptrTo b] #[]] 60)).alloc (.cells #[.int .u64 (wd (x.val) 0), .int .u64 (wd (x.val) 1), .int .u64 (wd (x.val) 2), .int .u64 (wd (x.val) 3)] 24)).alloc (.cells #[.int .u64 0, .int .u64 0, .int .u64 0, .int .u64 0] 24) = w1 at *
  have b0 : w1.heap[w.heap.size]? = some (.cells (cc b) 60 (0, 0)) := b0
  have b1 : w1.heap[w.heap.size + 1]? = some (.cells (nc x.val) 24 (0, 0)) := b1
  have hf := hF.ext hx
  clear hF
  refine' wp_plain (m := 5) (A := _) (by kernel_rfl) ?h1 ?h2
  case h1 =>
    refine mk_step (ptrTo w.heap.size) rfl (made_field rfl rfl (fldK0 _ ·)) ?_
    simp only [Act.put, List.setIfInBounds_toArray, List.set_cons_zero, List.set_cons_succ]
    refine mk_step (fv 58 b) rfl (made_load1 rfl rfl b0 rfl (isn_func ·)) ?_
    simp only [Act.put, List.setIfInBounds_toArray, List.set_cons_zero, List.set_cons_succ]
    refine mk_step (nv x.val) rfl (made_load rfl rfl b1 rfl uN rfl (iN _)) ?_
    simp only [Act.put, List.setIfInBounds_toArray, List.set_cons_zero, List.set_cons_succ]
    refine mk_step (nv x.val) rfl (made_load rfl rfl b1 rfl uN rfl (iN _)) ?_
    simp only [Act.put, List.setIfInBounds_toArray, List.set_cons_zero, List.set_cons_succ]
    refine mk_step (nv t.val) rfl (made_by (args := [nv x.val, nv x.val]) rfl rfl rfl (he_kAdd _ ·) (fun W hW => kadd_p kt.out (hf.ext hW))) ?_
    simp only [Act.put, List.setIfInBounds_toArray, List.set_cons_zero, List.set_cons_succ]
    exact mk_end
  case h2 =>
    refine prest_store _ rfl rfl rfl rfl rfl rfl b2 (iN _) rfl (nc_one _) ?_
    intro w2 hB hb
    go_wp2
    exact bodyPost_ret (results_cell_row rfl _ _ (w.heap.size + 1 + 1) 24 (nc t.val) (0, 0) _ rfl hb Try.underlying24 rfl (by kernel_rfl)) rfl ⟨rfl, hx.new hB (by omega)⟩
set_option maxRecDepth 100000 in
set_option maxHeartbeats 8000000 in
theorem trp_calls {b : Nat} {x t : Fe} (ht : t = x + x + x) {w : World} (hF : Fp w b) :
    Calls Try.prog 64 #[cv b, nv x.val] w fun e w' => e = .returned (nv t.val) ∧ Ext w w' := by
  obtain ⟨y, hy⟩ : ∃ t : Fe, t = x + x := ⟨_, rfl⟩
  rw [← hy] at ht
  have ky := veil hy
  clear hy
  have kt := veil ht
  clear ht
  unfold cv nv cc fv nc
  go_enter Try.func64, Try.ntmps64
  go_upto_region 1 with (fail)
  obtain ⟨hx, b0, b1, b2⟩ := blocks3 w (.cells #[.func (.func 58) #[ptrTo b] #[], .func (.func 59) #[ptrTo b] #[], .func (.func 60) #[ptrTo b] #[], .func (.func 61) #[ptrTo b] #[]] 60) (.cells #[.int .u64 (wd (x.val) 0), .int .u64 (wd (x.val) 1), .int .u64 (wd (x.val) 2), .int .u64 (wd (x.val) 3)] 24) (.cells #[.int .u64 0, .int .u64 0, .int .u64 0, .int .u64 0] 24)
  generalize ((w.alloc (.cells #[.func (.func 58) #[ptrTo b] #[], .func (.func 59) #[ptrTo b] #[], .func (.func 60) #[ptrTo b] #[], .func (.func 61) #[ptrTo b] #[]] 60)).alloc (.cells #[.int .u64 (wd (x.val) 0), .int .u64 (wd (x.val) 1), .int .u64 (wd (x.val) 2), .int .u64 (wd (x.val) 3)] 24)).alloc (.cells #[.int .u64 0, .int .u64 0, .int .u64 0, .int .u64 0] 24) = w1 at *
  have b0 : w1.heap[w.heap.size]? = some (.cells (cc b) 60 (0, 0)) := b0
  have b1 : w1.heap[w.heap.size + 1]? = some (.cells (nc x.val) 24 (0, 0)) := b1
  have hf := hF.ext hx
  clear hF
  refine' wp_made (m := 7) (A := _) 7 (by kernel_rfl) (by kernel_rfl) (by kernel_rfl) ?h1 ?h2
  case h1 =>
    refine mk_step (ptrTo w.heap.size) rfl (made_field rfl rfl (fldK0 _ ·)) ?_
    simp only [Act.put, List.setIfInBounds_toArray, List.set_cons_zero, List.set_cons_succ]
    refine mk_step (fv 58 b) rfl (made_load1 rfl rfl b0 rfl (isn_func ·)) ?_
    simp only [Act.put, List.setIfInBounds_toArray, List.set_cons_zero, List.set_cons_succ]
    refine mk_step (cv b) rfl (made_load rfl rfl b0 rfl Try.underlying60 rfl (iK _)) ?_
    simp only [Act.put, List.setIfInBounds_toArray, List.set_cons_zero, List.set_cons_succ]
    refine mk_step (nv x.val) rfl (made_load rfl rfl b1 rfl uN rfl (iN _)) ?_
    simp only [Act.put, List.setIfInBounds_toArray, List.set_cons_zero, List.set_cons_succ]
    refine mk_step (nv y.val) rfl (made_fun (args := [cv b, nv x.val]) rfl rfl (fun W => run_callFunc_in Try.func66 rfl rfl _ W) (fun W hW => dbl_calls ky.out (hf.ext hW))) ?_
    simp only [Act.put, List.setIfInBounds_toArray, List.set_cons_zero, List.set_cons_succ]
    refine mk_step (nv x.val) rfl (made_load rfl rfl b1 rfl uN rfl (iN _)) ?_
    simp only [Act.put, List.setIfInBounds_toArray, List.set_cons_zero, List.set_cons_succ]
    refine mk_step (nv t.val) rfl (made_by (args := [nv y.val, nv x.val]) rfl rfl rfl (he_kAdd _ ·) (fun W hW => kadd_p kt.out (hf.ext hW))) ?_
    simp only [Act.put, List.setIfInBounds_toArray, List.set_cons_zero, List.set_cons_succ]
    exact mk_end
  case h2 =>
    refine rest_store _ rfl rfl rfl rfl rfl (by kernel_rfl) (by kernel_rfl) rfl rfl rfl b2 (iN _) rfl (nc_one _) ?_
    intro w2 hB hb
    refine NoPanic.normal ?_
    go_wp2
    exact bodyPost_ret (results_cell_row rfl _ _ (w.heap.size + 1 + 1) 24 (nc t.val) (0, 0) _ rfl hb Try.underlying24 rfl (by kernel_rfl)) rfl ⟨rfl, hx.new hB (by omega)⟩
end Go.Proofs.Ytppfcdpokgnpfaa


/-
  point: P, N, Base, the curve's b; whether a number is 0; a point as a scaled one; the curve is made.
-/
namespace Go.Proofs.Ytppfcdpokgnpfaa
open Go.RowKit

set_option maxRecDepth 100000 in
set_option maxHeartbeats 1000000 in
theorem pP_calls (w : World) : Calls Try.prog 14 #[] w fun e w' => e = .returned (.agg #[.int .u64 (wd (Pt.pp) 0), .int .u64 (wd (Pt.pp) 1), .int .u64 (wd (Pt.pp) 2), .int .u64 (wd (Pt.pp) 3)]) ∧ Below w.heap.size w w' := by
  obtain ⟨l0, l1, l2, l3⟩ := pp_lits
  rw [l0, l1, l2, l3]
  clear l0 l1 l2 l3
  go_enter Try.func14, Try.ntmps14
  go_wp2
  exact bodyPost_ret (results_cell_row rfl _ _ w.heap.size 24 #[.int .u64 18446744073709551615, .int .u64 4294967295, .int .u64 0, .int .u64 18446744069414584321] (0, 0) _ rfl (heap_alloc_last w _) Try.underlying24 rfl (by kernel_rfl)) rfl ⟨rfl, (Below.refl _ _).alloc (Nat.le_refl _) _⟩
set_option maxRecDepth 100000 in
set_option maxHeartbeats 1000000 in
theorem pN_calls (w : World) : Calls Try.prog 16 #[] w fun e w' => e = .returned (.agg #[.int .u64 (wd (Pt.nn) 0), .int .u64 (wd (Pt.nn) 1), .int .u64 (wd (Pt.nn) 2), .int .u64 (wd (Pt.nn) 3)]) ∧ Below w.heap.size w w' := by
  obtain ⟨l0, l1, l2, l3⟩ := nn_lits
  rw [l0, l1, l2, l3]
  clear l0 l1 l2 l3
  go_enter Try.func16, Try.ntmps16
  go_wp2
  exact bodyPost_ret (results_cell_row rfl _ _ w.heap.size 24 #[.int .u64 17562291160714782033, .int .u64 13611842547513532036, .int .u64 18446744073709551615, .int .u64 18446744069414584320] (0, 0) _ rfl (heap_alloc_last w _) Try.underlying24 rfl (by kernel_rfl)) rfl ⟨rfl, (Below.refl _ _).alloc (Nat.le_refl _) _⟩
set_option maxRecDepth 100000 in
set_option maxHeartbeats 1000000 in
theorem bb_calls (w : World) : Calls Try.prog 65 #[] w fun e w' => e = .returned (.agg #[.int .u64 (wd (Pt.bb) 0), .int .u64 (wd (Pt.bb) 1), .int .u64 (wd (Pt.bb) 2), .int .u64 (wd (Pt.bb) 3)]) ∧ Below w.heap.size w w' := by
  obtain ⟨l0, l1, l2, l3⟩ := bb_lits
  rw [l0, l1, l2, l3]
  clear l0 l1 l2 l3
  go_enter Try.func65, Try.ntmps65
  go_wp2
  exact bodyPost_ret (results_cell_row rfl _ _ w.heap.size 24 #[.int .u64 4309448131093880907, .int .u64 7285987128567378166, .int .u64 12964664127075681980, .int .u64 6540974713487397863] (0, 0) _ rfl (heap_alloc_last w _) Try.underlying24 rfl (by kernel_rfl)) rfl ⟨rfl, (Below.refl _ _).alloc (Nat.le_refl _) _⟩

set_option maxRecDepth 100000 in
set_option maxHeartbeats 1000000 in
theorem isz_calls (X : Nat) (hX : X < top) (w : World) :
    Calls Try.prog 62 #[nv X] w fun e w' => e = .returned (.bool (decide (X = 0))) ∧ Ext w w' := by
  unfold nv nc
  have kq := fun W => eql_zero hX W
  obtain ⟨q, hq⟩ : ∃ q, q = decide (X = 0) := ⟨_, rfl⟩
  rw [← hq] at kq ⊢
  have hA : (w.alloc (.cells #[.int .u64 (wd (X) 0), .int .u64 (wd (X) 1), .int .u64 (wd (X) 2), .int .u64 (wd (X) 3)] 24)).rowIs w.heap.size 24 4 (fun j => .int .u64 (wd X j)) := row_new (n := 4) (by simp) rfl (arr4 fun j => .int .u64 (wd X j))
  obtain ⟨c0, c1, c2, c3⟩ := row_c4 hA
  clear hq hX hA
  go_enter Try.func62, Try.ntmps62
  go_wp2
  go_ret
  exact ⟨rfl, (Below.refl _ _).alloc (Nat.le_refl _) _⟩
theorem isz_no {X : Nat} (h : X ≠ 0) (hX : X < top) (w : World) : Calls Try.prog 62 #[nv X] w fun e w' => e = .returned (.bool false) ∧ Ext w w' := by
  have k := isz_calls X hX w
  rwa [decide_eq_false h] at k
theorem isz_yes {X : Nat} (h : X = 0) (w : World) : Calls Try.prog 62 #[nv X] w fun e w' => e = .returned (.bool true) ∧ Ext w w' := by
  have k := isz_calls X (by rw [h]; exact Nat.two_pow_pos 256) w
  rwa [decide_eq_true h] at k

section
variable {P : Program} {o : Oper} {a : Act} {w : World}
theorem made_geq {x : Operand} {ty ty2 : TypeId} {c : Int} {v : Bool} (ho : o.op = .binOp .geq ty x (.const (.int .i64 0)) ty2) (hx : a.eval x = .int .i64 c) (hv : decide (0 ≤ c) = v) : Made P o (.bool v) a w := made_val fun W _ => by
  have h0 : a.eval (.const (.int .i64 0)) = .int .i64 0 := rfl
  unfold execOp
  simp only [ho]
  generalize a.eval = ρ at *
  subst hv
  rw [hx, h0]
  simp [go_sem, eqGuard]
end
theorem made_eqn {o : Oper} {a : Act} {w : World} {x y : Operand} {X Y : Nat} (ho : o.op = .binOp .eql 24 x y 24) (hx : a.eval x = nv X) (hy : a.eval y = nv Y) (lX : X < top) (lY : Y < top) : Made Try.prog o (.bool (decide (X = Y))) a w := made_val fun W _ => by
  have k := eql_num lX lY W
  unfold execOp
  simp only [ho]
  generalize a.eval = ρ at *
  rw [hx, hy]
  unfold nv nc at *
  have hg : (eqGuard .eql 24 x y (.agg #[.int .u64 (wd (X) 0), .int .u64 (wd (X) 1), .int .u64 (wd (X) 2), .int .u64 (wd (X) 3)]) (.agg #[.int .u64 (wd (Y) 0), .int .u64 (wd (Y) 1), .int .u64 (wd (Y) 2), .int .u64 (wd (Y) 3)])).run Try.prog W = .ok () W := by simp [eqGuard, go_sem]
  simp only [Sem.run_bind, hg, Result.andThen_ok, k, Sem.run_pure]
theorem cmp_in {X : Nat} (h : X < Pt.pp) (w : World) : Calls Try.prog 63 #[nv X, nv Pt.pp] w fun e w' => e = .returned (.int .i64 (-1)) ∧ Ext w w' :=
  kcmp X Pt.pp (-1) (by unfold cmpN; rw [if_pos h]) (Nat.lt_trans h pp_top) pp_top w
theorem cmp_no {X : Nat} (hX : X < top) (w : World) : Calls Try.prog 63 #[nv X, nv Pt.pp] w fun e w' => e = .returned (.int .i64 (cmpN X Pt.pp)) ∧ Ext w w' :=
  kcmp X Pt.pp _ rfl hX pp_top w
theorem cmp_no_ge {X : Nat} (h : ¬ X < Pt.pp) : decide (0 ≤ cmpN X Pt.pp) = true := by
  have := cmp_ge X Pt.pp
  simp only [this, h, not_false_eq_true, decide_true]
theorem pP_is (w : World) : Calls Try.prog 14 #[] w fun e w' => e = .returned (nv Pt.pp) ∧ Ext w w' := pP_calls w
theorem bb_is (w : World) : Calls Try.prog 65 #[] w fun e w' => e = .returned (nv (Pt.F Pt.bb : Fe).val) ∧ Ext w w' := by
  have h : (Pt.F Pt.bb : Fe).val = Pt.bb := Nat.mod_eq_of_lt bb_lt
  rw [h]
  exact bb_calls w

set_option maxRecDepth 100000 in
set_option maxHeartbeats 4000000 in
/-- The curve is made: its field lies in a new block. -/
theorem curve_calls (w : World) : Calls Try.prog 34 #[] w fun e w' => ∃ b, e = .returned (cv b) ∧ Fp w' b ∧ Ext w w' := by
  have hp : Pt.pp % 2 = 1 := by decide +kernel
  have hp2 : 2 < Pt.pp := by decide +kernel
  have K1 := veil (fun W => new_good Pt.pp hp hp2 pp_top W)
  have K0 := veil pP_calls
  clear hp hp2
  generalize hM : Pt.pp = M at K0 K1
  go_enter Try.func34, Try.ntmps34
  go_wp2_with fail
  refine (K0.out _).mono ?_
  rintro e w1 ⟨rfl, hb1⟩
  go_wp2_with fail
  refine (K1.out _).mono ?_
  rintro e w2 ⟨⟨b, N, Q, hK, hF, hle, rfl⟩, hb2⟩
  have hx : Ext w w2 := (Ext.alloc w _).trans (Ext.trans hb1 hb2)
  have hf : Fp w2 b := ⟨N, Q, hM ▸ hK, hM ▸ hF⟩
  have b0 : w2.heap[w.heap.size]? = some (.cells #[.nilFunc, .nilFunc, .nilFunc, .nilFunc] 60 (0, 0)) := Ext.block (Ext.trans hb1 hb2) (heap_is (w := w) rfl)
  have hne : w.heap.size < b := by have h1 := hb1.size; simp at h1; omega
  clear hK hF hM K0 K1 hb1 hb2 hle
  go_upto_region 2 with (fail)
  refine' wp_plain (m := 9) (A := _) (by kernel_rfl) ?h1 ?h2
  case h1 =>
    refine mk_step (ptrTo b) rfl (made_move (.inl rfl) rfl) ?_
    simp only [Act.put, List.setIfInBounds_toArray, List.set_cons_zero, List.set_cons_succ]
    refine mk_step (fv 58 b) rfl (made_func rfl rfl) ?_
    simp only [Act.put, List.setIfInBounds_toArray, List.set_cons_zero, List.set_cons_succ]
    refine mk_step (ptrTo b) rfl (made_move (.inl rfl) rfl) ?_
    simp only [Act.put, List.setIfInBounds_toArray, List.set_cons_zero, List.set_cons_succ]
    refine mk_step (fv 59 b) rfl (made_func rfl rfl) ?_
    simp only [Act.put, List.setIfInBounds_toArray, List.set_cons_zero, List.set_cons_succ]
    refine mk_step (ptrTo b) rfl (made_move (.inl rfl) rfl) ?_
    simp only [Act.put, List.setIfInBounds_toArray, List.set_cons_zero, List.set_cons_succ]
    refine mk_step (fv 60 b) rfl (made_func rfl rfl) ?_
    simp only [Act.put, List.setIfInBounds_toArray, List.set_cons_zero, List.set_cons_succ]
    refine mk_step (ptrTo b) rfl (made_move (.inl rfl) rfl) ?_
    simp only [Act.put, List.setIfInBounds_toArray, List.set_cons_zero, List.set_cons_succ]
    refine mk_step (fv 61 b) rfl (made_func rfl rfl) ?_
    simp only [Act.put, List.setIfInBounds_toArray, List.set_cons_zero, List.set_cons_succ]
    refine mk_step (cv b) rfl (made_build (vs := [(0, fv 58 b), (1, fv 59 b), (2, fv 60 b), (3, fv 61 b)]) rfl rfl (fun W => bldK W _)) ?_
    simp only [Act.put, List.setIfInBounds_toArray, List.set_cons_zero, List.set_cons_succ]
    exact mk_end
  case h2 =>
    refine prest_store _ rfl rfl rfl rfl rfl rfl b0 (iK _) rfl (cc_one _) ?_
    intro w3 hB hb
    go_wp2
    have hf' : Fp w3 b := by
      obtain ⟨N, Q, h1, h2⟩ := hf
      exact ⟨N, Q, h1, h2.of_block (hB.block b h2.lt (by intro e; simp at e; omega))⟩
    exact bodyPost_ret (results_cell_row rfl _ _ w.heap.size 60 (cc b) (0, 0) _ rfl hb Try.underlying60 rfl (by kernel_rfl)) rfl ⟨b, rfl, hf', hx.new hB (Nat.le_refl _)⟩
end Go.Proofs.Ytppfcdpokgnpfaa


/-
  point: a point as a scaled one; the base.
-/
namespace Go.Proofs.Ytppfcdpokgnpfaa
open Go.RowKit

set_option maxRecDepth 100000 in
set_option maxHeartbeats 8000000 in
theorem lift_far (x y : Nat) (w : World) :
    Calls Try.prog 38 #[qv x y true] w fun e w' => e = .returned (sv 0 0 0) ∧ Ext w w' := by
  unfold qv qc
  go_enter Try.func38, Try.ntmps38
  go_upto_region 1 with (fail)
  obtain ⟨hx, b0, b1⟩ := blocks2 w (.cells #[.int .u64 (wd (x) 0), .int .u64 (wd (x) 1), .int .u64 (wd (x) 2), .int .u64 (wd (x) 3), .int .u64 (wd (y) 0), .int .u64 (wd (y) 1), .int .u64 (wd (y) 2), .int .u64 (wd (y) 3), .bool (true)] 26) (.cells #[.int .u64 0, .int .u64 0, .int .u64 0, .int .u64 0, .int .u64 0, .int .u64 0, .int .u64 0, .int .u64 0, .int .u64 0, .int .u64 0, .int .u64 0, .int .u64 0] 64)
  generalize (w.alloc (.cells #[.int .u64 (wd (x) 0), .int .u64 (wd (x) 1), .int .u64 (wd (x) 2), .int .u64 (wd (x) 3), .int .u64 (wd (y) 0), .int .u64 (wd (y) 1), .int .u64 (wd (y) 2), .int .u64 (wd (y) 3), .bool (true)] 26)).alloc (.cells #[.int .u64 0, .int .u64 0, .int .u64 0, .int .u64 0, .int .u64 0, .int .u64 0, .int .u64 0, .int .u64 0, .int .u64 0, .int .u64 0, .int .u64 0, .int .u64 0] 64) = w1 at *
  have b0 : w1.heap[w.heap.size]? = some (.cells (qc x y true) 26 (0, 0)) := b0
  refine' wp_plain (m := 2) (A := _) (by kernel_rfl) ?h1 ?h2
  case h1 =>
    refine mk_step (.pointer (some ⟨w.heap.size, 8, none⟩)) rfl (made_field rfl rfl (fldT2 _ ·)) ?_
    simp only [Act.put, List.setIfInBounds_toArray, List.set_cons_zero, List.set_cons_succ]
    refine mk_step (.bool true) rfl (made_load1 rfl rfl b0 rfl (isn_bool ·)) ?_
    simp only [Act.put, List.setIfInBounds_toArray, List.set_cons_zero, List.set_cons_succ]
    exact mk_end
  case h2 =>
    refine prest_done rfl ?_
    intro w2 hE
    replace b0 := hE.block b0
    replace b1 := hE.block b1
    replace hx := hx.trans hE
    clear hE
    go_upto_region 2 with (fail)
    refine' wp_plain (m := 1) (A := _) (by kernel_rfl) ?h1 ?h2
    case h1 =>
      refine mk_step (sv 0 0 0) rfl (made_build rfl rfl (bldS0 ·)) ?_
      simp only [Act.put, List.setIfInBounds_toArray, List.set_cons_zero, List.set_cons_succ]
      exact mk_end
    case h2 =>
      refine prest_store _ rfl rfl rfl rfl rfl rfl b1 (iS _ _ _) rfl (sc_one _ _ _) ?_
      intro w3 hB hb
      go_wp2
      exact bodyPost_ret (results_cell_row rfl _ _ (w.heap.size + 1) 64 (sc 0 0 0) (0, 0) _ rfl hb Try.underlying64 rfl (by kernel_rfl)) rfl ⟨rfl, hx.new hB (by omega)⟩
set_option maxRecDepth 100000 in
set_option maxHeartbeats 8000000 in
theorem lift_near (x y : Nat) (w : World) :
    Calls Try.prog 38 #[qv x y false] w fun e w' => e = .returned (sv x y 1) ∧ Ext w w' := by
  unfold qv qc
  go_enter Try.func38, Try.ntmps38
  go_upto_region 1 with (fail)
  obtain ⟨hx, b0, b1⟩ := blocks2 w (.cells #[.int .u64 (wd (x) 0), .int .u64 (wd (x) 1), .int .u64 (wd (x) 2), .int .u64 (wd (x) 3), .int .u64 (wd (y) 0), .int .u64 (wd (y) 1), .int .u64 (wd (y) 2), .int .u64 (wd (y) 3), .bool (false)] 26) (.cells #[.int .u64 0, .int .u64 0, .int .u64 0, .int .u64 0, .int .u64 0, .int .u64 0, .int .u64 0, .int .u64 0, .int .u64 0, .int .u64 0, .int .u64 0, .int .u64 0] 64)
  generalize (w.alloc (.cells #[.int .u64 (wd (x) 0), .int .u64 (wd (x) 1), .int .u64 (wd (x) 2), .int .u64 (wd (x) 3), .int .u64 (wd (y) 0), .int .u64 (wd (y) 1), .int .u64 (wd (y) 2), .int .u64 (wd (y) 3), .bool (false)] 26)).alloc (.cells #[.int .u64 0, .int .u64 0, .int .u64 0, .int .u64 0, .int .u64 0, .int .u64 0, .int .u64 0, .int .u64 0, .int .u64 0, .int .u64 0, .int .u64 0, .int .u64 0] 64) = w1 at *
  have b0 : w1.heap[w.heap.size]? = some (.cells (qc x y false) 26 (0, 0)) := b0
  refine' wp_plain (m := 2) (A := _) (by kernel_rfl) ?h1 ?h2
  case h1 =>
    refine mk_step (.pointer (some ⟨w.heap.size, 8, none⟩)) rfl (made_field rfl rfl (fldT2 _ ·)) ?_
    simp only [Act.put, List.setIfInBounds_toArray, List.set_cons_zero, List.set_cons_succ]
    refine mk_step (.bool false) rfl (made_load1 rfl rfl b0 rfl (isn_bool ·)) ?_
    simp only [Act.put, List.setIfInBounds_toArray, List.set_cons_zero, List.set_cons_succ]
    exact mk_end
  case h2 =>
    refine prest_done rfl ?_
    intro w2 hE
    replace b0 := hE.block b0
    replace b1 := hE.block b1
    replace hx := hx.trans hE
    clear hE
    go_upto_region 3 with (fail)
    refine' wp_plain (m := 6) (A := _) (by kernel_rfl) ?h1 ?h2
    case h1 =>
      refine mk_step (ptrTo w.heap.size) rfl (made_field rfl rfl (fldT0 _ ·)) ?_
      simp only [Act.put, List.setIfInBounds_toArray, List.set_cons_zero, List.set_cons_succ]
      refine mk_step (nv x) rfl (made_load rfl rfl b0 rfl uN rfl (iN _)) ?_
      simp only [Act.put, List.setIfInBounds_toArray, List.set_cons_zero, List.set_cons_succ]
      refine mk_step (.pointer (some ⟨w.heap.size, 4, none⟩)) rfl (made_field rfl rfl (fldT1 _ ·)) ?_
      simp only [Act.put, List.setIfInBounds_toArray, List.set_cons_zero, List.set_cons_succ]
      refine mk_step (nv y) rfl (made_load rfl rfl b0 rfl uN rfl (iN _)) ?_
      simp only [Act.put, List.setIfInBounds_toArray, List.set_cons_zero, List.set_cons_succ]
      refine mk_step (nv 1) rfl (made_build (vs := [(0, .int .u64 1)]) rfl rfl (bldN1 ·)) ?_
      simp only [Act.put, List.setIfInBounds_toArray, List.set_cons_zero, List.set_cons_succ]
      refine mk_step (sv x y 1) rfl (made_build (vs := [(0, nv x), (1, nv y), (2, nv 1)]) rfl rfl (fun W => bldS W _ _ _)) ?_
      simp only [Act.put, List.setIfInBounds_toArray, List.set_cons_zero, List.set_cons_succ]
      exact mk_end
    case h2 =>
      refine prest_store _ rfl rfl rfl rfl rfl rfl b1 (iS _ _ _) rfl (sc_one _ _ _) ?_
      intro w3 hB hb
      go_wp2
      exact bodyPost_ret (results_cell_row rfl _ _ (w.heap.size + 1) 64 (sc x y 1) (0, 0) _ rfl hb Try.underlying64 rfl (by kernel_rfl)) rfl ⟨rfl, hx.new hB (by omega)⟩
set_option maxRecDepth 100000 in
set_option maxHeartbeats 8000000 in
theorem base_calls (w : World) :
    Calls Try.prog 18 #[] w fun e w' => e = .returned (qv Pt.gx Pt.gy false) ∧ Ext w w' := by
  unfold qv qc
  go_enter Try.func18, Try.ntmps18
  go_upto_region 1 with (fail)
  obtain ⟨hx, b0⟩ := blocks1 w (.cells #[.int .u64 0, .int .u64 0, .int .u64 0, .int .u64 0, .int .u64 0, .int .u64 0, .int .u64 0, .int .u64 0, .bool false] 26)
  generalize w.alloc (.cells #[.int .u64 0, .int .u64 0, .int .u64 0, .int .u64 0, .int .u64 0, .int .u64 0, .int .u64 0, .int .u64 0, .bool false] 26) = w1 at *
  refine' wp_plain (m := 3) (A := _) (by kernel_rfl) ?h1 ?h2
  case h1 =>
    refine mk_step (nv Pt.gx) rfl (made_build (vs := [(0, .int .u64 17627433388654248598), (1, .int .u64 8575836109218198432), (2, .int .u64 17923454489921339634), (3, .int .u64 7716867327612699207)]) rfl rfl (bldGx ·)) ?_
    simp only [Act.put, List.setIfInBounds_toArray, List.set_cons_zero, List.set_cons_succ]
    refine mk_step (nv Pt.gy) rfl (made_build (vs := [(0, .int .u64 14678990851816772085), (1, .int .u64 3156516839386865358), (2, .int .u64 10297457778147434006), (3, .int .u64 5756518291402817435)]) rfl rfl (bldGy ·)) ?_
    simp only [Act.put, List.setIfInBounds_toArray, List.set_cons_zero, List.set_cons_succ]
    refine mk_step (qv Pt.gx Pt.gy false) rfl (made_build (vs := [(0, nv Pt.gx), (1, nv Pt.gy)]) rfl rfl (fun W => bldT W _ _)) ?_
    simp only [Act.put, List.setIfInBounds_toArray, List.set_cons_zero, List.set_cons_succ]
    exact mk_end
  case h2 =>
    refine prest_store _ rfl rfl rfl rfl rfl rfl b0 (iT _ _ _) rfl (qc_one _ _ _) ?_
    intro w2 hB hb
    go_wp2
    exact bodyPost_ret (results_cell_row rfl _ _ (w.heap.size) 26 (qc Pt.gx Pt.gy false) (0, 0) _ rfl hb Try.underlying26 rfl (by kernel_rfl)) rfl ⟨rfl, hx.new hB (by omega)⟩
end Go.Proofs.Ytppfcdpokgnpfaa


/-
  point.curve: the sum of a scaled point and itself.
-/
namespace Go.Proofs.Ytppfcdpokgnpfaa
open Go.RowKit

def twice3 (x y z : Fe) : Fe × Fe × Fe :=
  let zz : Fe := z * z
  let yy : Fe := y * y
  let s : Fe := x - zz
  let u : Fe := x + zz
  let su : Fe := s * u
  let m : Fe := su + su + su
  let q : Fe := x * yy
  let q2 : Fe := q + q
  let cr : Fe := q2 + q2
  let mm : Fe := m * m
  let c2 : Fe := cr + cr
  let X : Fe := mm - c2
  let e : Fe := yy * yy
  let e2 : Fe := e + e
  let e4 : Fe := e2 + e2
  let tl : Fe := e4 + e4
  let d : Fe := cr - X
  let md : Fe := m * d
  let Y : Fe := md - tl
  let yz : Fe := y * z
  let Z : Fe := yz + yz
  (X, Y, Z)
set_option maxRecDepth 100000 in
set_option maxHeartbeats 8000000 in
theorem twice_calls {b : Nat} (x y z : Fe) {w : World} (hF : Fp w b) :
    Calls Try.prog 41 #[cv b, sv x.val y.val z.val] w fun e w' => e = .returned (sv (twice3 x y z).1.val (twice3 x y z).2.1.val (twice3 x y z).2.2.val) ∧ Ext w w' := by
  obtain ⟨zz, hzz⟩ : ∃ t : Fe, t = z * z := ⟨_, rfl⟩
  obtain ⟨yy, hyy⟩ : ∃ t : Fe, t = y * y := ⟨_, rfl⟩
  obtain ⟨s, hs⟩ : ∃ t : Fe, t = x - zz := ⟨_, rfl⟩
  obtain ⟨u, hu⟩ : ∃ t : Fe, t = x + zz := ⟨_, rfl⟩
  obtain ⟨su, hsu⟩ : ∃ t : Fe, t = s * u := ⟨_, rfl⟩
  obtain ⟨m, hm⟩ : ∃ t : Fe, t = su + su + su := ⟨_, rfl⟩
  obtain ⟨q, hq⟩ : ∃ t : Fe, t = x * yy := ⟨_, rfl⟩
  obtain ⟨q2, hq2⟩ : ∃ t : Fe, t = q + q := ⟨_, rfl⟩
  obtain ⟨cr, hcr⟩ : ∃ t : Fe, t = q2 + q2 := ⟨_, rfl⟩
  obtain ⟨mm, hmm⟩ : ∃ t : Fe, t = m * m := ⟨_, rfl⟩
  obtain ⟨c2, hc2⟩ : ∃ t : Fe, t = cr + cr := ⟨_, rfl⟩
  obtain ⟨X, hX⟩ : ∃ t : Fe, t = mm - c2 := ⟨_, rfl⟩
  obtain ⟨e, he⟩ : ∃ t : Fe, t = yy * yy := ⟨_, rfl⟩
  obtain ⟨e2, he2⟩ : ∃ t : Fe, t = e + e := ⟨_, rfl⟩
  obtain ⟨e4, he4⟩ : ∃ t : Fe, t = e2 + e2 := ⟨_, rfl⟩
  obtain ⟨tl, htl⟩ : ∃ t : Fe, t = e4 + e4 := ⟨_, rfl⟩
  obtain ⟨d, hd⟩ : ∃ t : Fe, t = cr - X := ⟨_, rfl⟩
  obtain ⟨md, hmd⟩ : ∃ t : Fe, t = m * d := ⟨_, rfl⟩
  obtain ⟨Y, hY⟩ : ∃ t : Fe, t = md - tl := ⟨_, rfl⟩
  obtain ⟨yz, hyz⟩ : ∃ t : Fe, t = y * z := ⟨_, rfl⟩
  obtain ⟨Z, hZ⟩ : ∃ t : Fe, t = yz + yz := ⟨_, rfl⟩
  have hfin : twice3 x y z = (X, Y, Z) := by
    subst hZ hyz hY hmd hd htl he4 he2 he hX hc2 hmm hcr hq2 hq hm hsu hu hs hyy hzz
    rfl
  rw [hfin]
  clear hfin
  have kzz := veil hzz
  have kyy := veil hyy
  have ks := veil hs
  have ku := veil hu
  have ksu := veil hsu
  have km := veil hm
  have kq := veil hq
  have kq2 := veil hq2
  have kcr := veil hcr
  have kmm := veil hmm
  have kc2 := veil hc2
  have kX := veil hX
  have ke := veil he
  have ke2 := veil he2
  have ke4 := veil he4
  have ktl := veil htl
  have kd := veil hd
  have kmd := veil hmd
  have kY := veil hY
  have kyz := veil hyz
  have kZ := veil hZ
  clear hZ hyz hY hmd hd htl he4 he2 he hX hc2 hmm hcr hq2 hq hm hsu hu hs hyy hzz
  show Calls Try.prog 41 #[cv b, sv x.val y.val z.val] w fun e w' => e = .returned (sv X.val Y.val Z.val) ∧ Ext w w'
  unfold cv sv cc fv sc
  go_enter Try.func41, Try.ntmps41
  go_upto_region 1 with (fail)
  obtain ⟨hx, b0, b1, b2⟩ := blocks3 w (.cells #[.func (.func 58) #[ptrTo b] #[], .func (.func 59) #[ptrTo b] #[], .func (.func 60) #[ptrTo b] #[], .func (.func 61) #[ptrTo b] #[]] 60) (.cells #[.int .u64 (wd (x.val) 0), .int .u64 (wd (x.val) 1), .int .u64 (wd (x.val) 2), .int .u64 (wd (x.val) 3), .int .u64 (wd (y.val) 0), .int .u64 (wd (y.val) 1), .int .u64 (wd (y.val) 2), .int .u64 (wd (y.val) 3), .int .u64 (wd (z.val) 0), .int .u64 (wd (z.val) 1), .int .u64 (wd (z.val) 2), .int .u64 (wd (z.val) 3)] 64) (.cells #[.int .u64 0, .int .u64 0, .int .u64 0, .int .u64 0, .int .u64 0, .int .u64 0, .int .u64 0, .int .u64 0, .int .u64 0, .int .u64 0, .int .u64 0, .int .u64 0] 64)
  generalize ((w.alloc (.cells #[.func (.func 58) #[ptrTo b] #[], .func (.func 59) #[ptrTo b] #[], .func (.func 60) #[ptrTo b] #[], .func (.func 61) #[ptrTo b] #[]] 60)).alloc (.cells #[.int .u64 (wd (x.val) 0), .int .u64 (wd (x.val) 1), .int .u64 (wd (x.val) 2), .int .u64 (wd (x.val) 3), .int .u64 (wd (y.val) 0), .int .u64 (wd (y.val) 1), .int .u64 (wd (y.val) 2), .int .u64 (wd (y.val) 3), .int .u64 (wd (z.val) 0), .int .u64 (wd (z.val) 1), .int .u64 (wd (z.val) 2), .int .u64 (wd (z.val) 3)] 64)).alloc (.cells #[.int .u64 0, .int .u64 0, .int .u64 0, .int .u64 0, .int .u64 0, .int .u64 0, .int .u64 0, .int .u64 0, .int .u64 0, .int .u64 0, .int .u64 0, .int .u64 0] 64) = w1 at *
  have b0 : w1.heap[w.heap.size]? = some (.cells (cc b) 60 (0, 0)) := b0
  have b1 : w1.heap[w.heap.size + 1]? = some (.cells (sc x.val y.val z.val) 64 (0, 0)) := b1
  have hf := hF.ext hx
  clear hF
  refine' wp_made (m := 14) (A := _) 16 (by kernel_rfl) (by kernel_rfl) (by kernel_rfl) ?h1 ?h2
  case h1 =>
    refine mk_step (.pointer (some ⟨w.heap.size, 2, none⟩)) rfl (made_field rfl rfl (fldK2 _ ·)) ?_
    simp only [Act.put, List.setIfInBounds_toArray, List.set_cons_zero, List.set_cons_succ]
    refine mk_step (fv 60 b) rfl (made_load1 rfl rfl b0 rfl (isn_func ·)) ?_
    simp only [Act.put, List.setIfInBounds_toArray, List.set_cons_zero, List.set_cons_succ]
    refine mk_step (.pointer (some ⟨w.heap.size + 1, 8, none⟩)) rfl (made_field rfl rfl (fldS2 _ ·)) ?_
    simp only [Act.put, List.setIfInBounds_toArray, List.set_cons_zero, List.set_cons_succ]
    refine mk_step (nv z.val) rfl (made_load rfl rfl b1 rfl uN rfl (iN _)) ?_
    simp only [Act.put, List.setIfInBounds_toArray, List.set_cons_zero, List.set_cons_succ]
    refine mk_step (.pointer (some ⟨w.heap.size + 1, 8, none⟩)) rfl (made_field rfl rfl (fldS2 _ ·)) ?_
    simp only [Act.put, List.setIfInBounds_toArray, List.set_cons_zero, List.set_cons_succ]
    refine mk_step (nv z.val) rfl (made_load rfl rfl b1 rfl uN rfl (iN _)) ?_
    simp only [Act.put, List.setIfInBounds_toArray, List.set_cons_zero, List.set_cons_succ]
    refine mk_step (nv zz.val) rfl (made_by (args := [nv z.val, nv z.val]) rfl rfl rfl (he_kMul _ ·) (fun W hW => kmul_p kzz.out (hf.ext hW))) ?_
    simp only [Act.put, List.setIfInBounds_toArray, List.set_cons_zero, List.set_cons_succ]
    refine mk_step (.pointer (some ⟨w.heap.size, 2, none⟩)) rfl (made_field rfl rfl (fldK2 _ ·)) ?_
    simp only [Act.put, List.setIfInBounds_toArray, List.set_cons_zero, List.set_cons_succ]
    refine mk_step (fv 60 b) rfl (made_load1 rfl rfl b0 rfl (isn_func ·)) ?_
    simp only [Act.put, List.setIfInBounds_toArray, List.set_cons_zero, List.set_cons_succ]
    refine mk_step (.pointer (some ⟨w.heap.size + 1, 4, none⟩)) rfl (made_field rfl rfl (fldS1 _ ·)) ?_
    simp only [Act.put, List.setIfInBounds_toArray, List.set_cons_zero, List.set_cons_succ]
    refine mk_step (nv y.val) rfl (made_load rfl rfl b1 rfl uN rfl (iN _)) ?_
    simp only [Act.put, List.setIfInBounds_toArray, List.set_cons_zero, List.set_cons_succ]
    refine mk_step (.pointer (some ⟨w.heap.size + 1, 4, none⟩)) rfl (made_field rfl rfl (fldS1 _ ·)) ?_
    simp only [Act.put, List.setIfInBounds_toArray, List.set_cons_zero, List.set_cons_succ]
    refine mk_step (nv y.val) rfl (made_load rfl rfl b1 rfl uN rfl (iN _)) ?_
    simp only [Act.put, List.setIfInBounds_toArray, List.set_cons_zero, List.set_cons_succ]
    refine mk_step (nv yy.val) rfl (made_by (args := [nv y.val, nv y.val]) rfl rfl rfl (he_kMul _ ·) (fun W hW => kmul_p kyy.out (hf.ext hW))) ?_
    simp only [Act.put, List.setIfInBounds_toArray, List.set_cons_zero, List.set_cons_succ]
    exact mk_end
  case h2 =>
    refine rest_two _ _ _ _ rfl rfl rfl rfl rfl rfl rfl rfl rfl rfl rfl rfl rfl rfl rfl rfl rfl (by decide) (by kernel_rfl) (by kernel_rfl) (by kernel_rfl) (by kernel_rfl) (by kernel_rfl) (by kernel_rfl) (by kernel_rfl) (by kernel_rfl) (by kernel_rfl) (hzN ·) (fun _ _ => rfl) (fun _ _ => rfl) (fun _ _ => rfl) (fun _ _ => rfl) (iN _) (iN _) rfl rfl (nc_one _) (nc_one _) ?_
    intro gzz gyy w2 hgzz hgyy bzz byy hE
    refine NoPanic.normal ?_
    replace b0 := hE.block b0
    replace b1 := hE.block b1
    replace b2 := hE.block b2
    replace hf := hf.ext hE
    replace hx := hx.trans hE
    clear hE
    simp only [Act.put, List.setIfInBounds_toArray, List.set_cons_zero, List.set_cons_succ]
    clear hgzz hgyy
    go_upto_region 2 with (fail)
    refine' wp_made (m := 17) (A := _) 18 (by kernel_rfl) (by kernel_rfl) (by kernel_rfl) ?h1 ?h2
    case h1 =>
      refine mk_step (cv b) rfl (made_load rfl rfl b0 rfl Try.underlying60 rfl (iK _)) ?_
      simp only [Act.put, List.setIfInBounds_toArray, List.set_cons_zero, List.set_cons_succ]
      refine mk_step (.pointer (some ⟨w.heap.size, 2, none⟩)) rfl (made_field rfl rfl (fldK2 _ ·)) ?_
      simp only [Act.put, List.setIfInBounds_toArray, List.set_cons_zero, List.set_cons_succ]
      refine mk_step (fv 60 b) rfl (made_load1 rfl rfl b0 rfl (isn_func ·)) ?_
      simp only [Act.put, List.setIfInBounds_toArray, List.set_cons_zero, List.set_cons_succ]
      refine mk_step (.pointer (some ⟨w.heap.size, 1, none⟩)) rfl (made_field rfl rfl (fldK1 _ ·)) ?_
      simp only [Act.put, List.setIfInBounds_toArray, List.set_cons_zero, List.set_cons_succ]
      refine mk_step (fv 59 b) rfl (made_load1 rfl rfl b0 rfl (isn_func ·)) ?_
      simp only [Act.put, List.setIfInBounds_toArray, List.set_cons_zero, List.set_cons_succ]
      refine mk_step (ptrTo (w.heap.size + 1)) rfl (made_field rfl rfl (fldS0 _ ·)) ?_
      simp only [Act.put, List.setIfInBounds_toArray, List.set_cons_zero, List.set_cons_succ]
      refine mk_step (nv x.val) rfl (made_load rfl rfl b1 rfl uN rfl (iN _)) ?_
      simp only [Act.put, List.setIfInBounds_toArray, List.set_cons_zero, List.set_cons_succ]
      refine mk_step (nv zz.val) rfl (made_load rfl rfl bzz rfl uN rfl (iN _)) ?_
      simp only [Act.put, List.setIfInBounds_toArray, List.set_cons_zero, List.set_cons_succ]
      refine mk_step (nv s.val) rfl (made_by (args := [nv x.val, nv zz.val]) rfl rfl rfl (he_kSub _ ·) (fun W hW => ksub_p ks.out (hf.ext hW))) ?_
      simp only [Act.put, List.setIfInBounds_toArray, List.set_cons_zero, List.set_cons_succ]
      refine mk_step (ptrTo w.heap.size) rfl (made_field rfl rfl (fldK0 _ ·)) ?_
      simp only [Act.put, List.setIfInBounds_toArray, List.set_cons_zero, List.set_cons_succ]
      refine mk_step (fv 58 b) rfl (made_load1 rfl rfl b0 rfl (isn_func ·)) ?_
      simp only [Act.put, List.setIfInBounds_toArray, List.set_cons_zero, List.set_cons_succ]
      refine mk_step (ptrTo (w.heap.size + 1)) rfl (made_field rfl rfl (fldS0 _ ·)) ?_
      simp only [Act.put, List.setIfInBounds_toArray, List.set_cons_zero, List.set_cons_succ]
      refine mk_step (nv x.val) rfl (made_load rfl rfl b1 rfl uN rfl (iN _)) ?_
      simp only [Act.put, List.setIfInBounds_toArray, List.set_cons_zero, List.set_cons_succ]
      refine mk_step (nv zz.val) rfl (made_load rfl rfl bzz rfl uN rfl (iN _)) ?_
      simp only [Act.put, List.setIfInBounds_toArray, List.set_cons_zero, List.set_cons_succ]
      refine mk_step (nv u.val) rfl (made_by (args := [nv x.val, nv zz.val]) rfl rfl rfl (he_kAdd _ ·) (fun W hW => kadd_p ku.out (hf.ext hW))) ?_
      simp only [Act.put, List.setIfInBounds_toArray, List.set_cons_zero, List.set_cons_succ]
      refine mk_step (nv su.val) rfl (made_by (args := [nv s.val, nv u.val]) rfl rfl rfl (he_kMul _ ·) (fun W hW => kmul_p ksu.out (hf.ext hW))) ?_
      simp only [Act.put, List.setIfInBounds_toArray, List.set_cons_zero, List.set_cons_succ]
      refine mk_step (nv m.val) rfl (made_fun (args := [cv b, nv su.val]) rfl rfl (fun W => run_callFunc_in Try.func64 rfl rfl _ W) (fun W hW => trp_calls km.out (hf.ext hW))) ?_
      simp only [Act.put, List.setIfInBounds_toArray, List.set_cons_zero, List.set_cons_succ]
      exact mk_end
    case h2 =>
      refine rest_var _ _ rfl rfl rfl rfl rfl rfl rfl rfl rfl (by kernel_rfl) (by kernel_rfl) (by kernel_rfl) rfl rfl (hzN ·) (fun _ => rfl) (fun _ => rfl) (iN _) rfl (nc_one _) ?_
      intro gm w3 hgm bm hE
      refine NoPanic.normal ?_
      replace b0 := hE.block b0
      replace b1 := hE.block b1
      replace b2 := hE.block b2
      replace bzz := hE.block bzz
      replace byy := hE.block byy
      replace hf := hf.ext hE
      replace hx := hx.trans hE
      clear hE
      simp only [Act.put, List.setIfInBounds_toArray, List.set_cons_zero, List.set_cons_succ]
      clear hgm
      go_upto_region 3 with (fail)
      refine' wp_plain (m := 6) (A := _) (by kernel_rfl) ?h1 ?h2
      case h1 =>
        refine mk_step (.pointer (some ⟨w.heap.size, 2, none⟩)) rfl (made_field rfl rfl (fldK2 _ ·)) ?_
        simp only [Act.put, List.setIfInBounds_toArray, List.set_cons_zero, List.set_cons_succ]
        refine mk_step (fv 60 b) rfl (made_load1 rfl rfl b0 rfl (isn_func ·)) ?_
        simp only [Act.put, List.setIfInBounds_toArray, List.set_cons_zero, List.set_cons_succ]
        refine mk_step (ptrTo (w.heap.size + 1)) rfl (made_field rfl rfl (fldS0 _ ·)) ?_
        simp only [Act.put, List.setIfInBounds_toArray, List.set_cons_zero, List.set_cons_succ]
        refine mk_step (nv x.val) rfl (made_load rfl rfl b1 rfl uN rfl (iN _)) ?_
        simp only [Act.put, List.setIfInBounds_toArray, List.set_cons_zero, List.set_cons_succ]
        refine mk_step (nv yy.val) rfl (made_load rfl rfl byy rfl uN rfl (iN _)) ?_
        simp only [Act.put, List.setIfInBounds_toArray, List.set_cons_zero, List.set_cons_succ]
        refine mk_step (nv q.val) rfl (made_by (args := [nv x.val, nv yy.val]) rfl rfl rfl (he_kMul _ ·) (fun W hW => kmul_p kq.out (hf.ext hW))) ?_
        simp only [Act.put, List.setIfInBounds_toArray, List.set_cons_zero, List.set_cons_succ]
        exact mk_end
      case h2 =>
        refine prest_var _ _ rfl rfl rfl rfl rfl rfl rfl (hzN ·) (fun _ => rfl) (fun _ => rfl) (iN _) rfl (nc_one _) ?_
        intro gq w4 hgq bq hE
        replace b0 := hE.block b0
        replace b1 := hE.block b1
        replace b2 := hE.block b2
        replace bzz := hE.block bzz
        replace byy := hE.block byy
        replace bm := hE.block bm
        replace hf := hf.ext hE
        replace hx := hx.trans hE
        clear hE
        simp only [Act.put, List.setIfInBounds_toArray, List.set_cons_zero, List.set_cons_succ]
        clear hgq
        go_upto_region 4 with (fail)
        refine' wp_made (m := 5) (A := _) 6 (by kernel_rfl) (by kernel_rfl) (by kernel_rfl) ?h1 ?h2
        case h1 =>
          refine mk_step (cv b) rfl (made_load rfl rfl b0 rfl Try.underlying60 rfl (iK _)) ?_
          simp only [Act.put, List.setIfInBounds_toArray, List.set_cons_zero, List.set_cons_succ]
          refine mk_step (cv b) rfl (made_load rfl rfl b0 rfl Try.underlying60 rfl (iK _)) ?_
          simp only [Act.put, List.setIfInBounds_toArray, List.set_cons_zero, List.set_cons_succ]
          refine mk_step (nv q.val) rfl (made_load rfl rfl bq rfl uN rfl (iN _)) ?_
          simp only [Act.put, List.setIfInBounds_toArray, List.set_cons_zero, List.set_cons_succ]
          refine mk_step (nv q2.val) rfl (made_fun (args := [cv b, nv q.val]) rfl rfl (fun W => run_callFunc_in Try.func66 rfl rfl _ W) (fun W hW => dbl_calls kq2.out (hf.ext hW))) ?_
          simp only [Act.put, List.setIfInBounds_toArray, List.set_cons_zero, List.set_cons_succ]
          refine mk_step (nv cr.val) rfl (made_fun (args := [cv b, nv q2.val]) rfl rfl (fun W => run_callFunc_in Try.func66 rfl rfl _ W) (fun W hW => dbl_calls kcr.out (hf.ext hW))) ?_
          simp only [Act.put, List.setIfInBounds_toArray, List.set_cons_zero, List.set_cons_succ]
          exact mk_end
        case h2 =>
          refine rest_var _ _ rfl rfl rfl rfl rfl rfl rfl rfl rfl (by kernel_rfl) (by kernel_rfl) (by kernel_rfl) rfl rfl (hzN ·) (fun _ => rfl) (fun _ => rfl) (iN _) rfl (nc_one _) ?_
          intro gcr w5 hgcr bcr hE
          refine NoPanic.normal ?_
          replace b0 := hE.block b0
          replace b1 := hE.block b1
          replace b2 := hE.block b2
          replace bzz := hE.block bzz
          replace byy := hE.block byy
          replace bm := hE.block bm
          replace bq := hE.block bq
          replace hf := hf.ext hE
          replace hx := hx.trans hE
          clear hE
          simp only [Act.put, List.setIfInBounds_toArray, List.set_cons_zero, List.set_cons_succ]
          clear hgcr
          go_upto_region 5 with (fail)
          refine' wp_made (m := 11) (A := _) 12 (by kernel_rfl) (by kernel_rfl) (by kernel_rfl) ?h1 ?h2
          case h1 =>
            refine mk_step (.pointer (some ⟨w.heap.size, 1, none⟩)) rfl (made_field rfl rfl (fldK1 _ ·)) ?_
            simp only [Act.put, List.setIfInBounds_toArray, List.set_cons_zero, List.set_cons_succ]
            refine mk_step (fv 59 b) rfl (made_load1 rfl rfl b0 rfl (isn_func ·)) ?_
            simp only [Act.put, List.setIfInBounds_toArray, List.set_cons_zero, List.set_cons_succ]
            refine mk_step (.pointer (some ⟨w.heap.size, 2, none⟩)) rfl (made_field rfl rfl (fldK2 _ ·)) ?_
            simp only [Act.put, List.setIfInBounds_toArray, List.set_cons_zero, List.set_cons_succ]
            refine mk_step (fv 60 b) rfl (made_load1 rfl rfl b0 rfl (isn_func ·)) ?_
            simp only [Act.put, List.setIfInBounds_toArray, List.set_cons_zero, List.set_cons_succ]
            refine mk_step (nv m.val) rfl (made_load rfl rfl bm rfl uN rfl (iN _)) ?_
            simp only [Act.put, List.setIfInBounds_toArray, List.set_cons_zero, List.set_cons_succ]
            refine mk_step (nv m.val) rfl (made_load rfl rfl bm rfl uN rfl (iN _)) ?_
            simp only [Act.put, List.setIfInBounds_toArray, List.set_cons_zero, List.set_cons_succ]
            refine mk_step (nv mm.val) rfl (made_by (args := [nv m.val, nv m.val]) rfl rfl rfl (he_kMul _ ·) (fun W hW => kmul_p kmm.out (hf.ext hW))) ?_
            simp only [Act.put, List.setIfInBounds_toArray, List.set_cons_zero, List.set_cons_succ]
            refine mk_step (cv b) rfl (made_load rfl rfl b0 rfl Try.underlying60 rfl (iK _)) ?_
            simp only [Act.put, List.setIfInBounds_toArray, List.set_cons_zero, List.set_cons_succ]
            refine mk_step (nv cr.val) rfl (made_load rfl rfl bcr rfl uN rfl (iN _)) ?_
            simp only [Act.put, List.setIfInBounds_toArray, List.set_cons_zero, List.set_cons_succ]
            refine mk_step (nv c2.val) rfl (made_fun (args := [cv b, nv cr.val]) rfl rfl (fun W => run_callFunc_in Try.func66 rfl rfl _ W) (fun W hW => dbl_calls kc2.out (hf.ext hW))) ?_
            simp only [Act.put, List.setIfInBounds_toArray, List.set_cons_zero, List.set_cons_succ]
            refine mk_step (nv X.val) rfl (made_by (args := [nv mm.val, nv c2.val]) rfl rfl rfl (he_kSub _ ·) (fun W hW => ksub_p kX.out (hf.ext hW))) ?_
            simp only [Act.put, List.setIfInBounds_toArray, List.set_cons_zero, List.set_cons_succ]
            exact mk_end
          case h2 =>
            refine rest_var _ _ rfl rfl rfl rfl rfl rfl rfl rfl rfl (by kernel_rfl) (by kernel_rfl) (by kernel_rfl) rfl rfl (hzN ·) (fun _ => rfl) (fun _ => rfl) (iN _) rfl (nc_one _) ?_
            intro gX w6 hgX bX hE
            refine NoPanic.normal ?_
            replace b0 := hE.block b0
            replace b1 := hE.block b1
            replace b2 := hE.block b2
            replace bzz := hE.block bzz
            replace byy := hE.block byy
            replace bm := hE.block bm
            replace bq := hE.block bq
            replace bcr := hE.block bcr
            replace hf := hf.ext hE
            replace hx := hx.trans hE
            clear hE
            simp only [Act.put, List.setIfInBounds_toArray, List.set_cons_zero, List.set_cons_succ]
            clear hgX
            go_upto_region 6 with (fail)
            refine' wp_plain (m := 5) (A := _) (by kernel_rfl) ?h1 ?h2
            case h1 =>
              refine mk_step (.pointer (some ⟨w.heap.size, 2, none⟩)) rfl (made_field rfl rfl (fldK2 _ ·)) ?_
              simp only [Act.put, List.setIfInBounds_toArray, List.set_cons_zero, List.set_cons_succ]
              refine mk_step (fv 60 b) rfl (made_load1 rfl rfl b0 rfl (isn_func ·)) ?_
              simp only [Act.put, List.setIfInBounds_toArray, List.set_cons_zero, List.set_cons_succ]
              refine mk_step (nv yy.val) rfl (made_load rfl rfl byy rfl uN rfl (iN _)) ?_
              simp only [Act.put, List.setIfInBounds_toArray, List.set_cons_zero, List.set_cons_succ]
              refine mk_step (nv yy.val) rfl (made_load rfl rfl byy rfl uN rfl (iN _)) ?_
              simp only [Act.put, List.setIfInBounds_toArray, List.set_cons_zero, List.set_cons_succ]
              refine mk_step (nv e.val) rfl (made_by (args := [nv yy.val, nv yy.val]) rfl rfl rfl (he_kMul _ ·) (fun W hW => kmul_p ke.out (hf.ext hW))) ?_
              simp only [Act.put, List.setIfInBounds_toArray, List.set_cons_zero, List.set_cons_succ]
              exact mk_end
            case h2 =>
              refine prest_var _ _ rfl rfl rfl rfl rfl rfl rfl (hzN ·) (fun _ => rfl) (fun _ => rfl) (iN _) rfl (nc_one _) ?_
              intro ge w7 hge be hE
              replace b0 := hE.block b0
              replace b1 := hE.block b1
              replace b2 := hE.block b2
              replace bzz := hE.block bzz
              replace byy := hE.block byy
              replace bm := hE.block bm
              replace bq := hE.block bq
              replace bcr := hE.block bcr
              replace bX := hE.block bX
              replace hf := hf.ext hE
              replace hx := hx.trans hE
              clear hE
              simp only [Act.put, List.setIfInBounds_toArray, List.set_cons_zero, List.set_cons_succ]
              clear hge
              go_upto_region 7 with (fail)
              refine' wp_made (m := 7) (A := _) 8 (by kernel_rfl) (by kernel_rfl) (by kernel_rfl) ?h1 ?h2
              case h1 =>
                refine mk_step (cv b) rfl (made_load rfl rfl b0 rfl Try.underlying60 rfl (iK _)) ?_
                simp only [Act.put, List.setIfInBounds_toArray, List.set_cons_zero, List.set_cons_succ]
                refine mk_step (cv b) rfl (made_load rfl rfl b0 rfl Try.underlying60 rfl (iK _)) ?_
                simp only [Act.put, List.setIfInBounds_toArray, List.set_cons_zero, List.set_cons_succ]
                refine mk_step (cv b) rfl (made_load rfl rfl b0 rfl Try.underlying60 rfl (iK _)) ?_
                simp only [Act.put, List.setIfInBounds_toArray, List.set_cons_zero, List.set_cons_succ]
                refine mk_step (nv e.val) rfl (made_load rfl rfl be rfl uN rfl (iN _)) ?_
                simp only [Act.put, List.setIfInBounds_toArray, List.set_cons_zero, List.set_cons_succ]
                refine mk_step (nv e2.val) rfl (made_fun (args := [cv b, nv e.val]) rfl rfl (fun W => run_callFunc_in Try.func66 rfl rfl _ W) (fun W hW => dbl_calls ke2.out (hf.ext hW))) ?_
                simp only [Act.put, List.setIfInBounds_toArray, List.set_cons_zero, List.set_cons_succ]
                refine mk_step (nv e4.val) rfl (made_fun (args := [cv b, nv e2.val]) rfl rfl (fun W => run_callFunc_in Try.func66 rfl rfl _ W) (fun W hW => dbl_calls ke4.out (hf.ext hW))) ?_
                simp only [Act.put, List.setIfInBounds_toArray, List.set_cons_zero, List.set_cons_succ]
                refine mk_step (nv tl.val) rfl (made_fun (args := [cv b, nv e4.val]) rfl rfl (fun W => run_callFunc_in Try.func66 rfl rfl _ W) (fun W hW => dbl_calls ktl.out (hf.ext hW))) ?_
                simp only [Act.put, List.setIfInBounds_toArray, List.set_cons_zero, List.set_cons_succ]
                exact mk_end
              case h2 =>
                refine rest_var _ _ rfl rfl rfl rfl rfl rfl rfl rfl rfl (by kernel_rfl) (by kernel_rfl) (by kernel_rfl) rfl rfl (hzN ·) (fun _ => rfl) (fun _ => rfl) (iN _) rfl (nc_one _) ?_
                intro gtl w8 hgtl btl hE
                refine NoPanic.normal ?_
                replace b0 := hE.block b0
                replace b1 := hE.block b1
                replace b2 := hE.block b2
                replace bzz := hE.block bzz
                replace byy := hE.block byy
                replace bm := hE.block bm
                replace bq := hE.block bq
                replace bcr := hE.block bcr
                replace bX := hE.block bX
                replace be := hE.block be
                replace hf := hf.ext hE
                replace hx := hx.trans hE
                clear hE
                simp only [Act.put, List.setIfInBounds_toArray, List.set_cons_zero, List.set_cons_succ]
                clear hgtl
                go_upto_region 8 with (fail)
                refine' wp_made (m := 24) (A := _) 24 (by kernel_rfl) (by kernel_rfl) (by kernel_rfl) ?h1 ?h2
                case h1 =>
                  refine mk_step (nv X.val) rfl (made_load rfl rfl bX rfl uN rfl (iN _)) ?_
                  simp only [Act.put, List.setIfInBounds_toArray, List.set_cons_zero, List.set_cons_succ]
                  refine mk_step (.pointer (some ⟨w.heap.size, 1, none⟩)) rfl (made_field rfl rfl (fldK1 _ ·)) ?_
                  simp only [Act.put, List.setIfInBounds_toArray, List.set_cons_zero, List.set_cons_succ]
                  refine mk_step (fv 59 b) rfl (made_load1 rfl rfl b0 rfl (isn_func ·)) ?_
                  simp only [Act.put, List.setIfInBounds_toArray, List.set_cons_zero, List.set_cons_succ]
                  refine mk_step (.pointer (some ⟨w.heap.size, 2, none⟩)) rfl (made_field rfl rfl (fldK2 _ ·)) ?_
                  simp only [Act.put, List.setIfInBounds_toArray, List.set_cons_zero, List.set_cons_succ]
                  refine mk_step (fv 60 b) rfl (made_load1 rfl rfl b0 rfl (isn_func ·)) ?_
                  simp only [Act.put, List.setIfInBounds_toArray, List.set_cons_zero, List.set_cons_succ]
                  refine mk_step (nv m.val) rfl (made_load rfl rfl bm rfl uN rfl (iN _)) ?_
                  simp only [Act.put, List.setIfInBounds_toArray, List.set_cons_zero, List.set_cons_succ]
                  refine mk_step (.pointer (some ⟨w.heap.size, 1, none⟩)) rfl (made_field rfl rfl (fldK1 _ ·)) ?_
                  simp only [Act.put, List.setIfInBounds_toArray, List.set_cons_zero, List.set_cons_succ]
                  refine mk_step (fv 59 b) rfl (made_load1 rfl rfl b0 rfl (isn_func ·)) ?_
                  simp only [Act.put, List.setIfInBounds_toArray, List.set_cons_zero, List.set_cons_succ]
                  refine mk_step (nv cr.val) rfl (made_load rfl rfl bcr rfl uN rfl (iN _)) ?_
                  simp only [Act.put, List.setIfInBounds_toArray, List.set_cons_zero, List.set_cons_succ]
                  refine mk_step (nv X.val) rfl (made_load rfl rfl bX rfl uN rfl (iN _)) ?_
                  simp only [Act.put, List.setIfInBounds_toArray, List.set_cons_zero, List.set_cons_succ]
                  refine mk_step (nv d.val) rfl (made_by (args := [nv cr.val, nv X.val]) rfl rfl rfl (he_kSub _ ·) (fun W hW => ksub_p kd.out (hf.ext hW))) ?_
                  simp only [Act.put, List.setIfInBounds_toArray, List.set_cons_zero, List.set_cons_succ]
                  refine mk_step (nv md.val) rfl (made_by (args := [nv m.val, nv d.val]) rfl rfl rfl (he_kMul _ ·) (fun W hW => kmul_p kmd.out (hf.ext hW))) ?_
                  simp only [Act.put, List.setIfInBounds_toArray, List.set_cons_zero, List.set_cons_succ]
                  refine mk_step (nv tl.val) rfl (made_load rfl rfl btl rfl uN rfl (iN _)) ?_
                  simp only [Act.put, List.setIfInBounds_toArray, List.set_cons_zero, List.set_cons_succ]
                  refine mk_step (nv Y.val) rfl (made_by (args := [nv md.val, nv tl.val]) rfl rfl rfl (he_kSub _ ·) (fun W hW => ksub_p kY.out (hf.ext hW))) ?_
                  simp only [Act.put, List.setIfInBounds_toArray, List.set_cons_zero, List.set_cons_succ]
                  refine mk_step (cv b) rfl (made_load rfl rfl b0 rfl Try.underlying60 rfl (iK _)) ?_
                  simp only [Act.put, List.setIfInBounds_toArray, List.set_cons_zero, List.set_cons_succ]
                  refine mk_step (.pointer (some ⟨w.heap.size, 2, none⟩)) rfl (made_field rfl rfl (fldK2 _ ·)) ?_
                  simp only [Act.put, List.setIfInBounds_toArray, List.set_cons_zero, List.set_cons_succ]
                  refine mk_step (fv 60 b) rfl (made_load1 rfl rfl b0 rfl (isn_func ·)) ?_
                  simp only [Act.put, List.setIfInBounds_toArray, List.set_cons_zero, List.set_cons_succ]
                  refine mk_step (.pointer (some ⟨w.heap.size + 1, 4, none⟩)) rfl (made_field rfl rfl (fldS1 _ ·)) ?_
                  simp only [Act.put, List.setIfInBounds_toArray, List.set_cons_zero, List.set_cons_succ]
                  refine mk_step (nv y.val) rfl (made_load rfl rfl b1 rfl uN rfl (iN _)) ?_
                  simp only [Act.put, List.setIfInBounds_toArray, List.set_cons_zero, List.set_cons_succ]
                  refine mk_step (.pointer (some ⟨w.heap.size + 1, 8, none⟩)) rfl (made_field rfl rfl (fldS2 _ ·)) ?_
                  simp only [Act.put, List.setIfInBounds_toArray, List.set_cons_zero, List.set_cons_succ]
                  refine mk_step (nv z.val) rfl (made_load rfl rfl b1 rfl uN rfl (iN _)) ?_
                  simp only [Act.put, List.setIfInBounds_toArray, List.set_cons_zero, List.set_cons_succ]
                  refine mk_step (nv yz.val) rfl (made_by (args := [nv y.val, nv z.val]) rfl rfl rfl (he_kMul _ ·) (fun W hW => kmul_p kyz.out (hf.ext hW))) ?_
                  simp only [Act.put, List.setIfInBounds_toArray, List.set_cons_zero, List.set_cons_succ]
                  refine mk_step (nv Z.val) rfl (made_fun (args := [cv b, nv yz.val]) rfl rfl (fun W => run_callFunc_in Try.func66 rfl rfl _ W) (fun W hW => dbl_calls kZ.out (hf.ext hW))) ?_
                  simp only [Act.put, List.setIfInBounds_toArray, List.set_cons_zero, List.set_cons_succ]
                  refine mk_step (sv X.val Y.val Z.val) rfl (made_build (vs := [(0, nv X.val), (1, nv Y.val), (2, nv Z.val)]) rfl rfl (fun W => bldS W _ _ _)) ?_
                  simp only [Act.put, List.setIfInBounds_toArray, List.set_cons_zero, List.set_cons_succ]
                  exact mk_end
                case h2 =>
                  refine rest_store _ rfl rfl rfl rfl rfl (by kernel_rfl) (by kernel_rfl) rfl rfl rfl b2 (iS _ _ _) rfl (sc_one _ _ _) ?_
                  intro w9 hB hb
                  refine NoPanic.normal ?_
                  go_wp2
                  exact bodyPost_ret (results_cell_row rfl _ _ (w.heap.size + 1 + 1) 64 (sc X.val Y.val Z.val) (0, 0) _ rfl hb Try.underlying64 rfl (by kernel_rfl)) rfl ⟨rfl, hx.new hB (by omega)⟩
end Go.Proofs.Ytppfcdpokgnpfaa


/-
  point.curve: a scaled point as a point again.
-/
namespace Go.Proofs.Ytppfcdpokgnpfaa
open Go.RowKit

set_option maxRecDepth 100000 in
set_option maxHeartbeats 8000000 in
theorem flat_far {b : Nat} (x y : Nat) {w : World} (hF : Fp w b) :
    Calls Try.prog 36 #[cv b, sv x y 0] w fun e w' => e = .returned (qv 0 0 true) ∧ Ext w w' := by
  unfold cv sv cc fv sc
  go_enter Try.func36, Try.ntmps36
  go_upto_region 1 with (fail)
  obtain ⟨hx, b0, b1, b2⟩ := blocks3 w (.cells #[.func (.func 58) #[ptrTo b] #[], .func (.func 59) #[ptrTo b] #[], .func (.func 60) #[ptrTo b] #[], .func (.func 61) #[ptrTo b] #[]] 60) (.cells #[.int .u64 (wd (x) 0), .int .u64 (wd (x) 1), .int .u64 (wd (x) 2), .int .u64 (wd (x) 3), .int .u64 (wd (y) 0), .int .u64 (wd (y) 1), .int .u64 (wd (y) 2), .int .u64 (wd (y) 3), .int .u64 (wd (0) 0), .int .u64 (wd (0) 1), .int .u64 (wd (0) 2), .int .u64 (wd (0) 3)] 64) (.cells #[.int .u64 0, .int .u64 0, .int .u64 0, .int .u64 0, .int .u64 0, .int .u64 0, .int .u64 0, .int .u64 0, .bool false] 26)
  generalize ((w.alloc (.cells #[.func (.func 58) #[ptrTo b] #[], .func (.func 59) #[ptrTo b] #[], .func (.func 60) #[ptrTo b] #[], .func (.func 61) #[ptrTo b] #[]] 60)).alloc (.cells #[.int .u64 (wd (x) 0), .int .u64 (wd (x) 1), .int .u64 (wd (x) 2), .int .u64 (wd (x) 3), .int .u64 (wd (y) 0), .int .u64 (wd (y) 1), .int .u64 (wd (y) 2), .int .u64 (wd (y) 3), .int .u64 (wd (0) 0), .int .u64 (wd (0) 1), .int .u64 (wd (0) 2), .int .u64 (wd (0) 3)] 64)).alloc (.cells #[.int .u64 0, .int .u64 0, .int .u64 0, .int .u64 0, .int .u64 0, .int .u64 0, .int .u64 0, .int .u64 0, .bool false] 26) = w1 at *
  have b0 : w1.heap[w.heap.size]? = some (.cells (cc b) 60 (0, 0)) := b0
  have b1 : w1.heap[w.heap.size + 1]? = some (.cells (sc x y 0) 64 (0, 0)) := b1
  have hf := hF.ext hx
  clear hF
  refine' wp_plain (m := 8) (A := _) (by kernel_rfl) ?h1 ?h2
  case h1 =>
    refine mk_step (.pointer (some ⟨w.heap.size, 3, none⟩)) rfl (made_field rfl rfl (fldK3 _ ·)) ?_
    simp only [Act.put, List.setIfInBounds_toArray, List.set_cons_zero, List.set_cons_succ]
    refine mk_step (fv 61 b) rfl (made_load1 rfl rfl b0 rfl (isn_inv ·)) ?_
    simp only [Act.put, List.setIfInBounds_toArray, List.set_cons_zero, List.set_cons_succ]
    refine mk_step (.pointer (some ⟨w.heap.size + 1, 8, none⟩)) rfl (made_field rfl rfl (fldS2 _ ·)) ?_
    simp only [Act.put, List.setIfInBounds_toArray, List.set_cons_zero, List.set_cons_succ]
    refine mk_step (nv 0) rfl (made_load rfl rfl b1 rfl uN rfl (iN _)) ?_
    simp only [Act.put, List.setIfInBounds_toArray, List.set_cons_zero, List.set_cons_succ]
    refine mk_step (.tuple #[nv 0, .iface 37 (.int .i64 4)]) rfl (made_by (args := [nv 0]) rfl rfl rfl (he_kInv _ ·) (fun W hW => kinv_z (hf.ext hW))) ?_
    simp only [Act.put, List.setIfInBounds_toArray, List.set_cons_zero, List.set_cons_succ]
    refine mk_step (.tuple #[nv 0, .iface 37 (.int .i64 4)]) rfl (made_move (.inl rfl) rfl) ?_
    simp only [Act.put, List.setIfInBounds_toArray, List.set_cons_zero, List.set_cons_succ]
    refine mk_step (nv 0) rfl (made_ext rfl rfl rfl) ?_
    simp only [Act.put, List.setIfInBounds_toArray, List.set_cons_zero, List.set_cons_succ]
    refine mk_step (.iface 37 (.int .i64 4)) rfl (made_ext rfl rfl rfl) ?_
    simp only [Act.put, List.setIfInBounds_toArray, List.set_cons_zero, List.set_cons_succ]
    exact mk_end
  case h2 =>
    refine prest_var' _ _ rfl rfl rfl rfl rfl rfl rfl (hzN ·) (fun _ => rfl) (fun _ => rfl) (iN _) rfl (nc_one _) ?_
    intro gt w2 hgt bt hE
    replace b0 := hE.block b0
    replace b1 := hE.block b1
    replace b2 := hE.block b2
    replace hf := hf.ext hE
    replace hx := hx.trans hE
    clear hE
    simp only [Act.put, List.setIfInBounds_toArray, List.set_cons_zero, List.set_cons_succ]
    clear hgt
    go_upto_region 3 with (fail)
    refine' wp_plain (m := 1) (A := _) (by kernel_rfl) ?h1 ?h2
    case h1 =>
      refine mk_step (qv 0 0 true) rfl (made_build rfl rfl (bldTF ·)) ?_
      simp only [Act.put, List.setIfInBounds_toArray, List.set_cons_zero, List.set_cons_succ]
      exact mk_end
    case h2 =>
      refine prest_store _ rfl rfl rfl rfl rfl rfl b2 (iT _ _ _) rfl (qc_one _ _ _) ?_
      intro w3 hB hb
      go_wp2
      exact bodyPost_ret (results_cell_row rfl _ _ (w.heap.size + 1 + 1) 26 (qc 0 0 true) (0, 0) _ rfl hb Try.underlying26 rfl (by kernel_rfl)) rfl ⟨rfl, hx.new hB (by omega)⟩
def flat2 (x y z : Fe) : Fe × Fe := (x * (Pt.E256.inv z * Pt.E256.inv z), y * (Pt.E256.inv z * Pt.E256.inv z * Pt.E256.inv z))
set_option maxRecDepth 100000 in
set_option maxHeartbeats 8000000 in
theorem flat_near {b : Nat} (x y z : Fe) (hz : z ≠ 0) {w : World} (hF : Fp w b) :
    Calls Try.prog 36 #[cv b, sv x.val y.val z.val] w fun e w' => e = .returned (qv (flat2 x y z).1.val (flat2 x y z).2.val false) ∧ Ext w w' := by
  obtain ⟨iv, hiv⟩ : ∃ t : Fe, t = Pt.E256.inv z := ⟨_, rfl⟩
  obtain ⟨sq, hsq⟩ : ∃ t : Fe, t = iv * iv := ⟨_, rfl⟩
  obtain ⟨X, hX⟩ : ∃ t : Fe, t = x * sq := ⟨_, rfl⟩
  obtain ⟨cb, hcb⟩ : ∃ t : Fe, t = sq * iv := ⟨_, rfl⟩
  obtain ⟨Y, hY⟩ : ∃ t : Fe, t = y * cb := ⟨_, rfl⟩
  have hfin : flat2 x y z = (X, Y) := by
    unfold flat2
    rw [hY, hcb, hX, hsq, hiv]
  rw [hfin]
  clear hfin
  have kiv := veil hiv
  have ksq := veil hsq
  have kX := veil hX
  have kcb := veil hcb
  have kY := veil hY
  clear hY hcb hX hsq hiv
  have kz0 := veil hz
  clear hz
  show Calls Try.prog 36 #[cv b, sv x.val y.val z.val] w fun e w' => e = .returned (qv X.val Y.val false) ∧ Ext w w'
  unfold cv sv cc fv sc
  go_enter Try.func36, Try.ntmps36
  go_upto_region 1 with (fail)
  obtain ⟨hx, b0, b1, b2⟩ := blocks3 w (.cells #[.func (.func 58) #[ptrTo b] #[], .func (.func 59) #[ptrTo b] #[], .func (.func 60) #[ptrTo b] #[], .func (.func 61) #[ptrTo b] #[]] 60) (.cells #[.int .u64 (wd (x.val) 0), .int .u64 (wd (x.val) 1), .int .u64 (wd (x.val) 2), .int .u64 (wd (x.val) 3), .int .u64 (wd (y.val) 0), .int .u64 (wd (y.val) 1), .int .u64 (wd (y.val) 2), .int .u64 (wd (y.val) 3), .int .u64 (wd (z.val) 0), .int .u64 (wd (z.val) 1), .int .u64 (wd (z.val) 2), .int .u64 (wd (z.val) 3)] 64) (.cells #[.int .u64 0, .int .u64 0, .int .u64 0, .int .u64 0, .int .u64 0, .int .u64 0, .int .u64 0, .int .u64 0, .bool false] 26)
  generalize ((w.alloc (.cells #[.func (.func 58) #[ptrTo b] #[], .func (.func 59) #[ptrTo b] #[], .func (.func 60) #[ptrTo b] #[], .func (.func 61) #[ptrTo b] #[]] 60)).alloc (.cells #[.int .u64 (wd (x.val) 0), .int .u64 (wd (x.val) 1), .int .u64 (wd (x.val) 2), .int .u64 (wd (x.val) 3), .int .u64 (wd (y.val) 0), .int .u64 (wd (y.val) 1), .int .u64 (wd (y.val) 2), .int .u64 (wd (y.val) 3), .int .u64 (wd (z.val) 0), .int .u64 (wd (z.val) 1), .int .u64 (wd (z.val) 2), .int .u64 (wd (z.val) 3)] 64)).alloc (.cells #[.int .u64 0, .int .u64 0, .int .u64 0, .int .u64 0, .int .u64 0, .int .u64 0, .int .u64 0, .int .u64 0, .bool false] 26) = w1 at *
  have b0 : w1.heap[w.heap.size]? = some (.cells (cc b) 60 (0, 0)) := b0
  have b1 : w1.heap[w.heap.size + 1]? = some (.cells (sc x.val y.val z.val) 64 (0, 0)) := b1
  have hf := hF.ext hx
  clear hF
  refine' wp_plain (m := 8) (A := _) (by kernel_rfl) ?h1 ?h2
  case h1 =>
    refine mk_step (.pointer (some ⟨w.heap.size, 3, none⟩)) rfl (made_field rfl rfl (fldK3 _ ·)) ?_
    simp only [Act.put, List.setIfInBounds_toArray, List.set_cons_zero, List.set_cons_succ]
    refine mk_step (fv 61 b) rfl (made_load1 rfl rfl b0 rfl (isn_inv ·)) ?_
    simp only [Act.put, List.setIfInBounds_toArray, List.set_cons_zero, List.set_cons_succ]
    refine mk_step (.pointer (some ⟨w.heap.size + 1, 8, none⟩)) rfl (made_field rfl rfl (fldS2 _ ·)) ?_
    simp only [Act.put, List.setIfInBounds_toArray, List.set_cons_zero, List.set_cons_succ]
    refine mk_step (nv z.val) rfl (made_load rfl rfl b1 rfl uN rfl (iN _)) ?_
    simp only [Act.put, List.setIfInBounds_toArray, List.set_cons_zero, List.set_cons_succ]
    refine mk_step (.tuple #[nv iv.val, .nilIface]) rfl (made_by (args := [nv z.val]) rfl rfl rfl (he_kInv _ ·) (fun W hW => kinv_p kz0.out kiv.out (hf.ext hW))) ?_
    simp only [Act.put, List.setIfInBounds_toArray, List.set_cons_zero, List.set_cons_succ]
    refine mk_step (.tuple #[nv iv.val, .nilIface]) rfl (made_move (.inl rfl) rfl) ?_
    simp only [Act.put, List.setIfInBounds_toArray, List.set_cons_zero, List.set_cons_succ]
    refine mk_step (nv iv.val) rfl (made_ext rfl rfl rfl) ?_
    simp only [Act.put, List.setIfInBounds_toArray, List.set_cons_zero, List.set_cons_succ]
    refine mk_step (.nilIface) rfl (made_ext rfl rfl rfl) ?_
    simp only [Act.put, List.setIfInBounds_toArray, List.set_cons_zero, List.set_cons_succ]
    exact mk_end
  case h2 =>
    refine prest_var' _ _ rfl rfl rfl rfl rfl rfl rfl (hzN ·) (fun _ => rfl) (fun _ => rfl) (iN _) rfl (nc_one _) ?_
    intro gt w2 hgt bt hE
    replace b0 := hE.block b0
    replace b1 := hE.block b1
    replace b2 := hE.block b2
    replace hf := hf.ext hE
    replace hx := hx.trans hE
    clear hE
    simp only [Act.put, List.setIfInBounds_toArray, List.set_cons_zero, List.set_cons_succ]
    clear hgt
    go_upto_region 4 with (fail)
    refine' wp_plain (m := 5) (A := _) (by kernel_rfl) ?h1 ?h2
    case h1 =>
      refine mk_step (.pointer (some ⟨w.heap.size, 2, none⟩)) rfl (made_field rfl rfl (fldK2 _ ·)) ?_
      simp only [Act.put, List.setIfInBounds_toArray, List.set_cons_zero, List.set_cons_succ]
      refine mk_step (fv 60 b) rfl (made_load1 rfl rfl b0 rfl (isn_func ·)) ?_
      simp only [Act.put, List.setIfInBounds_toArray, List.set_cons_zero, List.set_cons_succ]
      refine mk_step (nv iv.val) rfl (made_load rfl rfl bt rfl uN rfl (iN _)) ?_
      simp only [Act.put, List.setIfInBounds_toArray, List.set_cons_zero, List.set_cons_succ]
      refine mk_step (nv iv.val) rfl (made_load rfl rfl bt rfl uN rfl (iN _)) ?_
      simp only [Act.put, List.setIfInBounds_toArray, List.set_cons_zero, List.set_cons_succ]
      refine mk_step (nv sq.val) rfl (made_by (args := [nv iv.val, nv iv.val]) rfl rfl rfl (he_kMul _ ·) (fun W hW => kmul_p ksq.out (hf.ext hW))) ?_
      simp only [Act.put, List.setIfInBounds_toArray, List.set_cons_zero, List.set_cons_succ]
      exact mk_end
    case h2 =>
      refine prest_var _ _ rfl rfl rfl rfl rfl rfl rfl (hzN ·) (fun _ => rfl) (fun _ => rfl) (iN _) rfl (nc_one _) ?_
      intro gsq w3 hgsq bsq hE
      replace b0 := hE.block b0
      replace b1 := hE.block b1
      replace b2 := hE.block b2
      replace bt := hE.block bt
      replace hf := hf.ext hE
      replace hx := hx.trans hE
      clear hE
      simp only [Act.put, List.setIfInBounds_toArray, List.set_cons_zero, List.set_cons_succ]
      clear hgsq
      go_upto_region 5 with (fail)
      refine' wp_made (m := 17) (A := _) 17 (by kernel_rfl) (by kernel_rfl) (by kernel_rfl) ?h1 ?h2
      case h1 =>
        refine mk_step (.pointer (some ⟨w.heap.size, 2, none⟩)) rfl (made_field rfl rfl (fldK2 _ ·)) ?_
        simp only [Act.put, List.setIfInBounds_toArray, List.set_cons_zero, List.set_cons_succ]
        refine mk_step (fv 60 b) rfl (made_load1 rfl rfl b0 rfl (isn_func ·)) ?_
        simp only [Act.put, List.setIfInBounds_toArray, List.set_cons_zero, List.set_cons_succ]
        refine mk_step (ptrTo (w.heap.size + 1)) rfl (made_field rfl rfl (fldS0 _ ·)) ?_
        simp only [Act.put, List.setIfInBounds_toArray, List.set_cons_zero, List.set_cons_succ]
        refine mk_step (nv x.val) rfl (made_load rfl rfl b1 rfl uN rfl (iN _)) ?_
        simp only [Act.put, List.setIfInBounds_toArray, List.set_cons_zero, List.set_cons_succ]
        refine mk_step (nv sq.val) rfl (made_load rfl rfl bsq rfl uN rfl (iN _)) ?_
        simp only [Act.put, List.setIfInBounds_toArray, List.set_cons_zero, List.set_cons_succ]
        refine mk_step (nv X.val) rfl (made_by (args := [nv x.val, nv sq.val]) rfl rfl rfl (he_kMul _ ·) (fun W hW => kmul_p kX.out (hf.ext hW))) ?_
        simp only [Act.put, List.setIfInBounds_toArray, List.set_cons_zero, List.set_cons_succ]
        refine mk_step (.pointer (some ⟨w.heap.size, 2, none⟩)) rfl (made_field rfl rfl (fldK2 _ ·)) ?_
        simp only [Act.put, List.setIfInBounds_toArray, List.set_cons_zero, List.set_cons_succ]
        refine mk_step (fv 60 b) rfl (made_load1 rfl rfl b0 rfl (isn_func ·)) ?_
        simp only [Act.put, List.setIfInBounds_toArray, List.set_cons_zero, List.set_cons_succ]
        refine mk_step (.pointer (some ⟨w.heap.size + 1, 4, none⟩)) rfl (made_field rfl rfl (fldS1 _ ·)) ?_
        simp only [Act.put, List.setIfInBounds_toArray, List.set_cons_zero, List.set_cons_succ]
        refine mk_step (nv y.val) rfl (made_load rfl rfl b1 rfl uN rfl (iN _)) ?_
        simp only [Act.put, List.setIfInBounds_toArray, List.set_cons_zero, List.set_cons_succ]
        refine mk_step (.pointer (some ⟨w.heap.size, 2, none⟩)) rfl (made_field rfl rfl (fldK2 _ ·)) ?_
        simp only [Act.put, List.setIfInBounds_toArray, List.set_cons_zero, List.set_cons_succ]
        refine mk_step (fv 60 b) rfl (made_load1 rfl rfl b0 rfl (isn_func ·)) ?_
        simp only [Act.put, List.setIfInBounds_toArray, List.set_cons_zero, List.set_cons_succ]
        refine mk_step (nv sq.val) rfl (made_load rfl rfl bsq rfl uN rfl (iN _)) ?_
        simp only [Act.put, List.setIfInBounds_toArray, List.set_cons_zero, List.set_cons_succ]
        refine mk_step (nv iv.val) rfl (made_load rfl rfl bt rfl uN rfl (iN _)) ?_
        simp only [Act.put, List.setIfInBounds_toArray, List.set_cons_zero, List.set_cons_succ]
        refine mk_step (nv cb.val) rfl (made_by (args := [nv sq.val, nv iv.val]) rfl rfl rfl (he_kMul _ ·) (fun W hW => kmul_p kcb.out (hf.ext hW))) ?_
        simp only [Act.put, List.setIfInBounds_toArray, List.set_cons_zero, List.set_cons_succ]
        refine mk_step (nv Y.val) rfl (made_by (args := [nv y.val, nv cb.val]) rfl rfl rfl (he_kMul _ ·) (fun W hW => kmul_p kY.out (hf.ext hW))) ?_
        simp only [Act.put, List.setIfInBounds_toArray, List.set_cons_zero, List.set_cons_succ]
        refine mk_step (qv X.val Y.val false) rfl (made_build (vs := [(0, nv X.val), (1, nv Y.val)]) rfl rfl (fun W => bldT W _ _)) ?_
        simp only [Act.put, List.setIfInBounds_toArray, List.set_cons_zero, List.set_cons_succ]
        exact mk_end
      case h2 =>
        refine rest_store _ rfl rfl rfl rfl rfl (by kernel_rfl) (by kernel_rfl) rfl rfl rfl b2 (iT _ _ _) rfl (qc_one _ _ _) ?_
        intro w4 hB hb
        refine NoPanic.normal ?_
        go_wp2
        exact bodyPost_ret (results_cell_row rfl _ _ (w.heap.size + 1 + 1) 26 (qc X.val Y.val false) (0, 0) _ rfl hb Try.underlying26 rfl (by kernel_rfl)) rfl ⟨rfl, hx.new hB (by omega)⟩
end Go.Proofs.Ytppfcdpokgnpfaa
