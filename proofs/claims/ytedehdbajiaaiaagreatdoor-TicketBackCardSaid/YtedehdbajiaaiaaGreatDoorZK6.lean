/-
  Of K7 K8 K9 KA KB KC KD Made2 SMath SSpec SBits HBase SWords HRot.
-/
import Derived.WalkKit
import Derived.Test.YtedehdbajiaaiaaGreatDoorRows
import Derived.Deep.MidRow
import Derived.Deep.WholeRow
import Derived.ChangeKeysEq
import Derived.WalkSpells
import Derived.WalkLawsBesides
import Derived.Deep.LoopGhost
import Derived.BigQuiet
import Derived.Deep.QuietTactic
import Derived.Test.YtedehdbajiaaiaaGreatDoorZK5
import Derived.Test.YtedehdbajiaaiaaGreatDoorZK2
import Derived.Test.YtedehdbajiaaiaaGreatDoorZK1
set_option maxRecDepth 1000000
set_option maxHeartbeats 20000000
namespace Go.Proofs.YtedehdbajiaaiaaGreatDoor
open Go.RowKit
open Go.Value renaming int → vI
open Go.IntKind renaming u64 → vU
open Go.Act renaming put → aP
open List renaming setIfInBounds_toArray → lA, set_cons_zero → lZ, set_cons_succ → lS
def TZ : Array Value:=#[.int .i64 0,.int .i64 0,.int .i64 0,.int .i64 0,.int .i64 0]
theorem iTZ : (Tryz.prog.info? 23).map (·.size) = some TZ.size:=by kernel_rfl
theorem zfy : TZ.all (·.oneCell') = true:=by simp [TZ,Value.oneCell']
theorem tz_tk : TZ = tkC ⟨0,0,0,0,0⟩:=rfl
theorem zdh {P : Program} {fn : Func} {q p s : Tmp} {ty ty2 : TypeId} (h : fn.results = #[.cell q ty,.cell p ty2,.tmp s]) (tmps : Array Value) (w : World) (g g2 : Nat) (t t2 : TypeId) (cs cs2 : Array Value) (fr fr2 : Nat × Nat) (d d2 : TypeDesc)
  (hq : tmps.getD q undef = .pointer (some ⟨g,0,none⟩)) (hg : w.heap[g]? = some (.cells cs t fr)) (hu : P.underlying ty = some d) (hd : d.isRow = true) (hi : (P.info? ty).map (·.size) = some cs.size)
  (hp : tmps.getD p undef = .pointer (some ⟨g2,0,none⟩)) (hg2 : w.heap[g2]? = some (.cells cs2 t2 fr2)) (hu2 : P.underlying ty2 = some d2) (hd2 : d2.isRow = true) (hi2 : (P.info? ty2).map (·.size) = some cs2.size) :
  (results fn tmps).run P w = .ok (.tuple #[.agg cs,.agg cs2,tmps.getD s undef]) w:=by
 have hq' : tmps[q]?.getD undef = .pointer (some ⟨g,0,none⟩):=by simpa using hq
 have hp' : tmps[p]?.getD undef = .pointer (some ⟨g2,0,none⟩):=by simpa using hp
 have hl : (loadVar ty ⟨g,0,none⟩).run P w = .ok (.agg cs) w:=run_loadVar_mid w g 0 ty cs.toList d (fun j v hv => by rw [cell_of_row w g (0 + j) cs t fr hg,Nat.zero_add]; simpa using hv) hu hd (by simpa using hi)
 have hl2 : (loadVar ty2 ⟨g2,0,none⟩).run P w = .ok (.agg cs2) w:=run_loadVar_mid w g2 0 ty2 cs2.toList d2 (fun j v hv => by rw [cell_of_row w g2 (0 + j) cs2 t2 fr2 hg2,Nat.zero_add]; simpa using hv) hu2 hd2 (by simpa using hi2)
 simp [results,h,hq',hp',asAddr,hl,hl2]
theorem zid {bs : List Nat} (h : partsB bs = none) : openB bs = none:=by
 unfold openB
 rw [h]
theorem zen {W : World} {g g' t : Nat} {cs : Array Value} (T : Array Value) (h : W.heap[g']? = some (.cells cs t (0,0))) (hg : g < g') : (W.setRow g T).heap[g']? = some (.cells cs t (0,0)):=(zcp W T (by omega)).trans h
theorem zex {w W : World} {g g' t t' : Nat} {T G T0 G0 : Array Value} (hE : Ext w W) (h : W.heap[g]? = some (.cells T0 t (0,0))) (h' : W.heap[g']? = some (.cells G0 t' (0,0))) (hg : w.heap.size ≤ g ∧ g < g') :
  Ext w ((W.setRow g T).setRow g' G) ∧ ((W.setRow g T).setRow g' G).heap[g]? = some (.cells T t (0,0)) ∧ ((W.setRow g T).setRow g' G).heap[g']? = some (.cells G t' (0,0)) :=
 ⟨zbj (zbj hE hg.1 T) (by omega) G,(zcp _ G (by omega)).trans (setRow_heap W g T0 T t (0,0) h),setRow_heap _ g' G0 G t' (0,0) (zen T h' hg.2)⟩
/-! ### a region that draws its order,order by order -/
section
variable {P : Program} {ops : Array Oper} {Q : Exit → Act → World → Prop} {f j d : Nat} {listed : Array Bool} {a : Act} {w : World}
theorem wp_tree {id : Nat} {l : List Oper} (hm : P.follows .mixedOrders = true) (h : ∀ Q',Hid (Q' = NoPanic Q) → wpG P .any l.toArray Q' 0 l.length (Array.replicate l.length false) a w) : (Code.region id l.toArray true).wp P Q a w:=by
 refine wp_region_noPanic ?_
 refine wp_region_any hm (zew (n:=0) _ _ _ _ ?_)
 have:=wpG.ext (h _ (veil rfl)) (Ext.drew w)
 simpa using this
abbrev GOne (P : Program) (ops : Array Oper) (Q : Exit → Act → World → Prop) (f : Nat) (listed : Array Bool) (j : Nat) (a : Act) (w : World) : Prop :=
 ∀ W,Ext w W → wpOp P ops Q j (fun a' W' => (j < 0 → Ext W W') ∧ wpG P .any ops Q 0 f (listed.setIfInBounds j true) a' W') a W
theorem G_one (hr : Region.ready .any ops listed = [j]) (h : GOne P ops Q f listed j a w) : wpG P .any ops Q 0 (f + 1) listed a w :=
 ⟨fun h0 => (by rw [hr] at h0; cases h0),fun i hi W hW => by
  rw [hr] at hi
  have e : i = j:=by simpa using hi
  subst e
  exact h W hW⟩
theorem G_two {i : Nat} (hr : Region.ready .any ops listed = [i,j]) (h : GOne P ops Q f listed i a w) (h2 : GOne P ops Q f listed j a w) : wpG P .any ops Q 0 (f + 1) listed a w :=
 ⟨fun h0 => (by rw [hr] at h0; cases h0),fun k hk W hW => by
  rw [hr] at hk
  have e : k = i ∨ k = j:=by simpa using hk
  rcases e with e | e <;> subst e
  ·
   exact h W hW
  ·
   exact h2 W hW⟩
theorem G_end {R : Exit → Act → World → Prop} (hr : Region.ready .any ops listed = []) (hQ : Hid (Q = NoPanic R)) (h : ∀ W,Ext w W → R .normal a W) : wpG P .any ops Q 0 0 listed a w :=
 ⟨hr,fun W hW => by rw [hQ.out]; exact h W hW⟩
theorem G_val {v : Value} (o : Oper) (ho : ops[j]? = some o) (hg : o.guard = none) (hd : o.dst = some d) (hm : ∀ W,Ext w W → (execOp a.eval o).run P W = .ok (.value v) W)
  (h : wpG P .any ops Q 0 f (listed.setIfInBounds j true) (a.put (some d) v) w) : GOne P ops Q f listed j a w:=fun W hW => zbe ho hg (by
 unfold Oper.wp
 rw [hm W hW,Oper.upon_value,hd]
 exact ⟨fun h => absurd h (Nat.not_lt_zero _),h.ext hW⟩)
theorem zht {ty t : TypeId} {x y : Operand} {g : Nat} {cells old : Array Value} (o : Oper) (ho : ops[j]? = some o) (hgd : o.guard = none) (hop : o.op = .store ty x y) (hd : o.dst = none)
  (hx : a.eval x = ptrTo g) (hy : a.eval y = .agg cells) (hb : w.heap[g]? = some (.cells old t (0,0))) (hi : (P.info? ty).map (·.size) = some cells.size) (hold : old.size = cells.size) (h1 : cells.all (·.oneCell') = true)
  (h : ∀ W,But g w W → W.heap[g]? = some (.cells cells t (0,0)) → wpG P .any ops Q 0 f (listed.setIfInBounds j true) a W) : GOne P ops Q f listed j a w:=fun W hW =>
 zbe ho hgd (wp_store_row ty x y hop g cells hx hy t old (hW.block hb) hi hold h1 ⟨fun h => absurd h (Nat.not_lt_zero _),by
  rw [hd]
  exact h _ (zcc (zhr hW) cells) (setRow_heap W g old cells t (0,0) (hW.block hb))⟩)
theorem two_buts {w w7 W8 W9 W10 : World} {g2 g3 t t' : Nat} {T G : Array Value} (hE : Ext w w7) (hg : w.heap.size ≤ g2 ∧ g2 < g3) (hB8 : But g2 w7 W8) (h8 : W8.heap[g2]? = some (.cells T t (0,0))) (hB9 : But g3 W8 W9) (h9 : W9.heap[g3]? = some (.cells G t' (0,0))) (hE10 : Ext W9 W10) :
  Ext w W10 ∧ W10.heap[g2]? = some (.cells T t (0,0)) ∧ W10.heap[g3]? = some (.cells G t' (0,0)):=by
 have e8 : Ext w W8:=Below.trans hE (hB8.new hg.1 (Below.size hE))
 have e9 : Ext w W9:=Below.trans e8 (hB9.new (by omega) (Below.size e8))
 exact ⟨e9.trans hE10,hE10.block ((hB9.block g2 (Array.getElem?_eq_some_iff.mp h8).1 (fun e => by injection e with e; omega)).trans h8),hE10.block h9⟩
theorem but_far {w W : World} {g k : Nat} {o : Obj} (hB : But g w W) (h : w.heap[k]? = some o) (hne : k ≠ g) : W.heap[k]? = some o:=(hB.block k (Array.getElem?_eq_some_iff.mp h).1 (fun e => hne (by injection e))).trans h
end
theorem eqCodeNil (k : Int) (w : World) : (binOp .eql 31 (.iface 35 (.int .i64 k)) .nilIface).run Tryz.prog w = .ok (.bool false) w:=by kernel_rfl
theorem eqNilNil (w : World) : (binOp .eql 31 .nilIface .nilIface).run Tryz.prog w = .ok (.bool true) w:=by kernel_rfl
def errV (k : Nat) : Value:=if k = 0 then .nilIface else .iface 35 (.int .i64 (k : Int))
def checkB (L : Low) (X Y : Nat) (f : Bool) (bs : List Nat) : Tk × Nat:=match openB bs with
 | none => (⟨0,0,0,0,0⟩,2)
 | some (t,r,s) => if L.vf X Y f (L.dg (tkB t)) r s = true then (t,0) else (⟨0,0,0,0,0⟩,8)
theorem checkB_none {L : Low} {X Y : Nat} {f : Bool} {bs : List Nat} (h : openB bs = none) : checkB L X Y f bs = (⟨0,0,0,0,0⟩,2):=by
 unfold checkB
 rw [h]
theorem checkB_some {L : Low} {X Y : Nat} {f : Bool} {bs : List Nat} {t : Tk} {r s : Nat} (h : openB bs = some (t,r,s)) : checkB L X Y f bs = if L.vf X Y f (L.dg (tkB t)) r s = true then (t,0) else (⟨0,0,0,0,0⟩,8):=by
 unfold checkB
 rw [h]
theorem zdi {P : Program} {fn : Func} {q s : Tmp} {ty : TypeId} (h : fn.results = #[.cell q ty,.tmp s]) (tmps : Array Value) (w : World) (g : Nat) (t : TypeId) (cs : Array Value) (fr : Nat × Nat) (d : TypeDesc)
  (hq : tmps.getD q undef = .pointer (some ⟨g,0,none⟩)) (hg : w.heap[g]? = some (.cells cs t fr)) (hu : P.underlying ty = some d) (hd : d.isRow = true) (hi : (P.info? ty).map (·.size) = some cs.size) :
  (results fn tmps).run P w = .ok (.tuple #[.agg cs,tmps.getD s undef]) w:=by
 have hq' : tmps[q]?.getD undef = .pointer (some ⟨g,0,none⟩):=by simpa using hq
 have hl : (loadVar ty ⟨g,0,none⟩).run P w = .ok (.agg cs) w:=run_loadVar_mid w g 0 ty cs.toList d (fun j v hv => by rw [cell_of_row w g (0 + j) cs t fr hg,Nat.zero_add]; simpa using hv) hu hd (by simpa using hi)
 simp [results,h,hq',asAddr,hl]
theorem zbs (w1 : World) (o o2 : Obj) : ((w1.alloc o).alloc o2).heap[w1.heap.size]? = some o ∧ ((w1.alloc o).alloc o2).heap[w1.heap.size + 1]? = some o2:=by
 have h:=zar (w1.alloc o) o2
 rw [World.size_alloc] at h
 exact ⟨(Ext.alloc (w1.alloc o) o2).block (zar w1 o),h⟩
theorem zfj (w1 : World) (o o2 : Obj) : Ext w1 ((w1.alloc o).alloc o2):=(Ext.alloc _ _).trans (Ext.alloc _ _)
theorem Up.calls {P : Program} {w : World} {D : World → Prop} (h : Up w D) {f : FuncId} {args : Array Value} {v : Value} (k : ∀ W,Ext w W → Calls P f args W fun _e w' => _e = .returned v ∧ Ext W w') (x : Gw D) :
  Calls P f args x.val fun _e w' => _e = .returned v ∧ ∃ y : Gw D,w' = y.val :=
 (k _ (h.grown _ x.property)).mono fun _ w' ⟨he,hE⟩ => ⟨he,⟨w',h.up _ _ x.property hE⟩,rfl⟩
theorem cells_tk : Tryz.prog.cellsOf 23 = 5:=by kernel_rfl
theorem cells_int : Tryz.prog.cellsOf 3 = 1:=by kernel_rfl
def Tk.ok (t : Tk) : Prop:=∀ n ∈ t.list,(Lit.int .i64 n).wf = true
theorem zgz {n : Int} (h : (Lit.int .i64 n).wf = true) (D : Nat) : Tryz.prog.keyLits (D + 1) 3 [.int .i64 n] = some [.int .i64 n]:=by
 unfold Program.keyLits
 simp [Tryz.underlying3,h]
theorem lits_tk {t : Tk} (h : t.ok) (D : Nat) : Tryz.prog.keyLits (D + 2) 23 (tkC t).toList = some [.int .i64 t.s,.int .i64 t.p,.int .i64 t.z,.int .i64 t.f,.int .i64 t.k]:=by
 have h0:=zgz (h t.s (by simp [Tk.list])) D
 have h1:=zgz (h t.p (by simp [Tk.list])) D
 have h2:=zgz (h t.z (by simp [Tk.list])) D
 have h3:=zgz (h t.f (by simp [Tk.list])) D
 have h4:=zgz (h t.k (by simp [Tk.list])) D
 unfold Program.keyLits tkC
 simp [Tryz.underlying23,cells_tk,cells_int,h0,h1,h2,h3,h4]
theorem wf_int {n : Int} (h0 : -9223372036854775808 ≤ n) (h1 : n ≤ 9223372036854775807) : (Lit.int .i64 n).wf = true:=by
 show (decide (_ ≤ n) && decide (n ≤ _)) = true
 simp only [Bool.and_eq_true,decide_eq_true_eq]
 exact ⟨h0,h1⟩
theorem ok_may {t : Tk} (h : mayT t = true) : t.ok:=fun n hn => by
 have:=mayT_each h n hn
 exact wf_int (by omega) (by omega)
theorem eqT9 {t : Tk} (ht : t.ok) (w : World) : (binOp .eql 23 (tkV t) (tkV t)).run Tryz.prog w = .ok (.bool true) w:=by
 unfold tkV
 rw [run_eql_struct]
 obtain ⟨r,hr,hiff⟩:=run_equalIn_deep (P:=Tryz.prog) 9990 10 23 (by kernel_rfl) w 10000 10000 (.agg (tkC t)) (.agg (tkC t)) _ _ (by simp [Value.formed,Tryz.underlying23,cells_tk,tkC]) (by simp [Value.formed,Tryz.underlying23,cells_tk,tkC]) (lits_tk ht 9998) (lits_tk ht 9998)
 rw [hr,Result.andThen_ok,hiff.2 rfl]
theorem neT9 {t : Tk} (ht : t.ok) (w : World) : (binOp .neq 23 (tkV t) (tkV t)).run Tryz.prog w = .ok (.bool false) w:=neq_of (eqT9 ht w) rfl
theorem gT9 (t t' : Tk) (op : BinOp) (x y : Operand) (W : World) : (eqGuard op 23 x y (tkV t) (tkV t')).run Tryz.prog W = .ok () W:=by
 unfold tkV tkC
 cases op <;> simp [eqGuard,go_sem]
theorem wpl_rowG {P : Program} {ops : Array Oper} {rest : List Oper} {o : Oper} {a : Act} {w : World} {Q : Exit → Act → World → Prop} (hgd : Region.wanted o (yielded ops a.tmps) = true) (ty : TypeId) (x : Operand) (ho : o.op = .load ty x)
  (g : Nat) (hx : a.eval x = .pointer (some ⟨g,0,none⟩)) (t : TypeId) (cs : Array Value) (fr : Nat × Nat) (d : TypeDesc) (hg : w.heap[g]? = some (.cells cs t fr))
  (hu : P.underlying ty = some d) (hd : (match d with | .struct _ | .array _ _ => true | _ => false) = true) (hi : (P.info? ty).map (·.size) = some cs.size)
  (h : wpList P ops Q rest (a.put o.dst (.agg cs)) w) : wpList P ops Q (o :: rest) a w :=
 wpList_step fun K hK => by
  rw [if_pos hgd]
  exact wp_load_row ty x ho g hx t cs fr d hg hu hd hi (hK _ _ h)
/-! ### what the laws ask of the landed package -/
def BodyA (w' : World) (t : Tk) (x ev : Value) : Prop :=
 (mayT t = false ∧ (∃ A c,x = .slice A 0 c) ∧ ev = .iface 35 (.int .i64 1)) ∨
 (mayT t = true ∧ (∃ A c,x = .slice A 55 c ∧ 55 ≤ c ∧ Bs w' A (tkB t)) ∧ ev = .nilIface)
def IssueA (L : Low) (w' : World) (t : Tk) (D : Nat) (x ev : Value) : Prop :=
 ((mayT t && L.md D) = false ∧ (∃ A c,x = .slice A 0 c) ∧ ev = .iface 35 (.int .i64 1)) ∨
 (mayT t = true ∧ L.md D = true ∧ L.sg D (L.dg (tkB t)) = none ∧ (∃ A c,x = .slice A 0 c) ∧ ev = .iface 35 (.int .i64 4)) ∨
 (mayT t = true ∧ L.md D = true ∧ ∃ r s,L.sg D (L.dg (tkB t)) = some (r,s) ∧ (∃ A c,x = .slice A (signedB (tkB t) r s).length c ∧ (signedB (tkB t) r s).length ≤ c ∧ Bs w' A (signedB (tkB t) r s)) ∧ ev = .nilIface)
def OpenC (bs : List Nat) (T G : Array Value) (ev : Value) : Prop :=
 (openB bs = none ∧ T = tkC ⟨0,0,0,0,0⟩ ∧ G = gc 0 0 ∧ ev = .iface 35 (.int .i64 2)) ∨ (∃ t r s,openB bs = some (t,r,s) ∧ T = tkC t ∧ G = gc r s ∧ ev = .nilIface)
structure Code9 (L : Low) (I : World → Prop) : Prop where
 keep : ∀ w w',I w → Ext w w' → I w'
 body : ∀ t w,Calls Tryz.prog 8 #[tkV t] w fun e w' => ∃ x ev,e = .returned (.tuple #[x,ev]) ∧ Ext w w' ∧ BodyA w' t x ev
 issue : ∀ t D w,I w → D < top → Calls Tryz.prog 9 #[tkV t,nv D] w fun e w' => ∃ x ev,e = .returned (.tuple #[x,ev]) ∧ Ext w w' ∧ IssueA L w' t D x ev
 open_nil : ∀ w,Calls Tryz.prog 16 #[.slice none 0 0] w fun e w' => e = .returned (.tuple #[.agg (tkC ⟨0,0,0,0,0⟩),.agg (gc 0 0),.iface 35 (.int .i64 2)]) ∧ Ext w w'
 open_ : ∀ A m c bs w,m = bs.length → m ≤ c → m ≤ 5000 → Bs w A bs → Calls Tryz.prog 16 #[.slice A m c] w fun e w' => ∃ T G ev,e = .returned (.tuple #[.agg T,.agg G,ev]) ∧ Ext w w' ∧ OpenC bs T G ev
 check : ∀ X Y f A m c bs w,I w → X < top → Y < top → m = bs.length → m ≤ c → m ≤ 5000 → Bs w A bs → Calls Tryz.prog 18 #[.slice A m c,qv X Y f] w fun e w' => e = .returned (.tuple #[tkV (checkB L X Y f bs).1,errV (checkB L X Y f bs).2]) ∧ Ext w w'
 pub : ∀ D w,L.md D = true → Calls Tryz.prog 21 #[nv D] w fun e w' => e = .returned (.tuple #[qv (L.pub D).1 (L.pub D).2 false,.nilIface]) ∧ Ext w w'
 on : ∀ D w,L.md D = true → Calls Tryz.prog 22 #[qv (L.pub D).1 (L.pub D).2 false] w fun e w' => e = .returned (.bool true) ∧ Ext w w'
theorem mayT_up : mayT ⟨1,1,1,0,1⟩ = true:=by decide
theorem tkB_up : (tkB ⟨1,1,1,0,1⟩).getD 0 0 = 1:=by decide
theorem eqCode22 (w : World) : (binOp .eql 31 (.iface 35 (.int .i64 2)) (.iface 35 (.int .i64 2))).run Tryz.prog w = .ok (.bool true) w:=by kernel_rfl
theorem up9 {L : Low} {I : World → Prop} (C : Code9 L I) (w : World) : Calls Tryz.prog 6 #[] w fun e w' => e = .returned (.bool true) ∧ Ext w w':=by
 have KO:=veil (fun W => C.open_nil W)
 have KB:=veil (fun W => C.body ⟨1,1,1,0,1⟩ W)
 unfold tkV tkC at KB
 simp only [] at KB
 have h22:=eqCode22
 have hnn:=eqNilNil
 go_enter Tryz.func6,Tryz.ntmps6
 go_upto_region 2 with (first
  | (go_at_call 16; refine (KO.out _).mono ?_; rintro e w1 ⟨rfl,hE1⟩)
  | ((with_reducible refine zaw ?_); refine wpList_store_row rfl 23 _ _ rfl w1.heap.size (tkC ⟨0,0,0,0,0⟩) rfl rfl 23 _ (zbs w1 _ _).1 (iTk _) rfl (zde _) ?_)
  | ((with_reducible refine zaw ?_); refine wpList_store_row rfl 39 _ _ rfl (w1.heap.size + 1) (gc 0 0) rfl rfl 39 _ (zen _ (zbs w1 _ _).2 (Nat.lt_succ_self _)) (iSg 0 0) rfl (zcf 0 0) ?_))
 have hF:=zex (T:=tkC ⟨0,0,0,0,0⟩) (G:=gc 0 0) (zfj w1 (.cells TZ 23) (.cells Z8 39)) (zbs w1 _ _).1 (zbs w1 _ _).2 ⟨Nat.le_refl _,Nat.lt_succ_self _⟩
 have hE2:=hE1.trans hF.1
 clear hF hE1
 obtain ⟨w2,hw2⟩ : ∃ W,W = (((w1.alloc (.cells TZ 23)).alloc (.cells Z8 39)).setRow w1.heap.size (tkC ⟨0,0,0,0,0⟩)).setRow (w1.heap.size + 1) (gc 0 0):=⟨_,rfl⟩
 rw [← hw2] at hE2
 unfold TZ Z8 at hw2
 rw [← hw2]
 clear hw2
 have HE2:=veil hE2
 clear hE2
 go_upto_region 3 with (go_at_call 8; refine (KB.out _).mono ?_; rintro e w3 ⟨x,ev,rfl,hE3,hA⟩)
 rcases hA with ⟨hm,_⟩ | ⟨_,⟨A,c,rfl,hc,hB⟩,rfl⟩
 ·
  rw [mayT_up] at hm; cases hm
 ·
  obtain ⟨b,o,rfl,hb,hcell⟩:=hB.cell (j:=0) (by rw [zbt]; decide)
  rw [tkB_up] at hcell
  have hcell' : w3.cell? ⟨b,o,none⟩ = some (.int .u8 1):=hcell
  have HE3:=veil (HE2.out.trans hE3)
  clear hE3 hB hcell KO KB
  go_wp2
  go_ret
  exact ⟨rfl,HE3.out⟩
def stored2 (w1 : World) (T G : Array Value) : World :=
 (((w1.alloc (.cells #[.int .i64 0,.int .i64 0,.int .i64 0,.int .i64 0,.int .i64 0] 23)).alloc (.cells #[vI vU 0,vI vU 0,vI vU 0,vI vU 0,vI vU 0,vI vU 0,vI vU 0,vI vU 0] 39)).setRow w1.heap.size T).setRow (w1.heap.size + 1) G
theorem zis (w1 : World) (T G : Array Value) : Ext w1 (stored2 w1 T G) ∧ (stored2 w1 T G).heap[w1.heap.size]? = some (.cells T 23 (0,0)) ∧ (stored2 w1 T G).heap[w1.heap.size + 1]? = some (.cells G 39 (0,0)) :=
 zex (T:=T) (G:=G) (zfj w1 (.cells TZ 23) (.cells Z8 39)) (zbs w1 _ _).1 (zbs w1 _ _).2 ⟨Nat.le_refl _,Nat.lt_succ_self _⟩
theorem neNilNil (w : World) : (binOp .neq 31 .nilIface .nilIface).run Tryz.prog w = .ok (.bool false) w:=by kernel_rfl
theorem zbu {bs : List Nat} {T G : Array Value} {ev : Value} (h : OpenC bs T G ev) : (Tryz.prog.info? 23).map (·.size) = some T.size ∧ TZ.size = T.size ∧ T.all (·.oneCell') = true ∧ (Tryz.prog.info? 39).map (·.size) = some G.size ∧ Z8.size = G.size ∧ G.all (·.oneCell') = true:=by
 rcases h with ⟨_,rfl,rfl,_⟩ | ⟨t,r,s,_,rfl,rfl,_⟩
 ·
  exact ⟨iTk _,rfl,zde _,iSg _ _,rfl,zcf _ _⟩
 ·
  exact ⟨iTk _,rfl,zde _,iSg _ _,rfl,zcf _ _⟩
theorem signedB_short (t : Tk) (r s : Nat) : (signedB (tkB t) r s).length ≤ 5000:=by
 have h:=zfh [(1,tkB t),(2,sigB r s)] 64 (fun f hf => by
  have : f = (1,tkB t) ∨ f = (2,sigB r s):=by simpa using hf
  rcases this with rfl | rfl
  ·
   rw [show ((1,tkB t) : Fd).2 = tkB t from rfl,zbt]; decide
  ·
   exact Nat.le_of_eq (zcv r s))
 unfold signedB
 exact Nat.le_trans h (by simp)
theorem top_pow : (256 : Nat) ^ 32 = top:=by decide
theorem check_issued {L : Low} {t : Tk} {D r s : Nat} (hm : mayT t = true) (hD : L.md D = true) (h : L.sg D (L.dg (tkB t)) = some (r,s)) : checkB L (L.pub D).1 (L.pub D).2 false (signedB (tkB t) r s) = (t,0):=by
 have ht:=L.sgt D _ r s h
 rw [checkB_some (open_signed hm (by rw [top_pow]; exact ht.1) (by rw [top_pow]; exact ht.2)),if_pos (L.vfs D _ r s hD (L.dgb _) h)]
theorem neCodeNil (k : Int) (w : World) : (binOp .neq 31 (.iface 35 (.int .i64 k)) .nilIface).run Tryz.prog w = .ok (.bool true) w:=by kernel_rfl
theorem issueA_ways {L : Low} {w' : World} {t : Tk} {D : Nat} {x ev : Value} (h : IssueA L w' t D x ev) : (∃ A c k,x = .slice A 0 c ∧ ev = .iface 35 (.int .i64 k)) ∨
  (mayT t = true ∧ L.md D = true ∧ ∃ r s,L.sg D (L.dg (tkB t)) = some (r,s) ∧ (∃ A c,x = .slice A (signedB (tkB t) r s).length c ∧ (signedB (tkB t) r s).length ≤ c ∧ Bs w' A (signedB (tkB t) r s)) ∧ ev = .nilIface):=by
 rcases h with ⟨_,⟨A,c,h1⟩,h2⟩ | ⟨_,_,_,⟨A,c,h1⟩,h2⟩ | h
 ·
  exact .inl ⟨A,c,_,h1,h2⟩
 ·
  exact .inl ⟨A,c,_,h1,h2⟩
 ·
  exact .inr h
theorem bodyA_may {w' : World} {t : Tk} {x ev : Value} (h : BodyA w' t x ev) (hm : mayT t = true) : (∃ A c,x = .slice A 55 c ∧ 55 ≤ c ∧ Bs w' A (tkB t)) ∧ ev = .nilIface:=by
 rcases h with ⟨h,_⟩ | ⟨_,h⟩
 ·
  rw [hm] at h
  cases h
 ·
  exact h
theorem back_walk {L : Low} {I : World → Prop} (R : LowR L) (C : Code9 L I) (t : Tk) (D : Nat) (hD : D < top) (A : Option Addr) (m c : Nat) (bs : List Nat) (hm : m = bs.length) (hmc : m ≤ c) (w : World) (hI : I w) (hS : Bs w A bs) :
  Calls Tryz.prog 5 #[tkV t,nv D,.slice A m c] w fun e w' => e = .returned (.bool true) ∧ Ext w w':=by
 have HS:=veil (And.intro hm (And.intro hmc (And.intro hI (And.intro hS hD))))
 have HC:=veil C
 have HR:=veil R
 unfold tkV nv
 clear hm hmc hI hS C R hD
 go_enter Tryz.func5,Tryz.ntmps5
 go_upto_region 1 with (fail)
 obtain ⟨g3,hg3⟩ : ∃ g,g = w.heap.size:=⟨_,rfl⟩
 obtain ⟨g4,hg4⟩ : ∃ g,g = w.heap.size + 1:=⟨_,rfl⟩
 have h3:=(zbs w (.cells (tkC t) 23) (.cells (nc D) 26)).1
 have h4:=(zbs w (.cells (tkC t) 23) (.cells (nc D) 26)).2
 have hE0:=zfj w (.cells (tkC t) 23) (.cells (nc D) 26)
 rw [← hg4,← hg3]
 rw [← hg3] at h3
 rw [← hg4] at h4
 generalize (w.alloc (.cells (tkC t) 23)).alloc (.cells (nc D) 26) = w0 at *
 have KU:=veil (up9 HC.out w0)
 have H0:=veil (And.intro hE0 (And.intro h3 h4))
 clear hE0 h3 h4 hg3 hg4
 go_upto_region 2 with (go_at_call 6; refine KU.out.mono ?_; rintro e w1 ⟨rfl,hE1⟩)
 have H1:=veil (And.intro (H0.out.1.trans hE1) (And.intro (hE1.block H0.out.2.1) (hE1.block H0.out.2.2)))
 clear hE1 H0 KU
 by_cases g0 : (5000 : Int) < (m : Int)
 ·
  have hd : decide ((5000 : Int) < (m : Int)) = true:=decide_eq_true g0
  go_wp2
  go_ret
  exact ⟨rfl,H1.out.1⟩
 ·
  have hd : decide ((5000 : Int) < (m : Int)) = false:=decide_eq_false g0
  have hle : m ≤ 5000:=by omega
  have HL:=veil hle
  have KI : Hid (Calls Tryz.prog 9 #[.agg (tkC t),.agg (nc D)] w1 fun e w' => ∃ x ev,e = .returned (.tuple #[x,ev]) ∧ Ext w1 w' ∧ IssueA L w' t D x ev):=veil (HC.out.issue t D w1 (HC.out.keep _ _ HS.out.2.2.1 H1.out.1) HS.out.2.2.2.2)
  clear hle
  go_upto_region 5 with (first
   | ((with_reducible refine zas 25 ?_); refine wpList_load_row rfl 23 _ rfl g3 rfl 23 (tkC t) (0,0) _ H1.out.2.1 Tryz.underlying23 rfl (iTk t) ?_)
   | ((with_reducible refine zas 26 ?_); refine wpList_load_row rfl 26 _ rfl g4 rfl 26 (nc D) (0,0) _ H1.out.2.2 Tryz.underlying26 rfl (iN D) ?_)
   | (go_at_call 9; refine KI.out.mono ?_; rintro e w2 ⟨x,ev,rfl,hE2,hA⟩))
  have H2:=veil (And.intro (H1.out.1.trans hE2) (And.intro (hE2.block H1.out.2.1) (hE2.block H1.out.2.2)))
  have e1:=eqCodeNil
  have e2:=eqNilNil
  clear hE2 H1 KI
  rcases issueA_ways hA with ⟨A2,c2,k,rfl,rfl⟩ | ⟨hmt,hmd,r,s,hsg,⟨A2,c2,rfl,hc2,hB2⟩,rfl⟩
  ·
   go_upto_region 10 with (fail)
   have H9:=veil H2.out.1
   clear H2 e1 e2 hA
   have KO:=veil (HC.out.open_ A m c bs w2 HS.out.1 HS.out.2.1 HL.out (HS.out.2.2.2.1.ext H9.out))
   go_upto_region 11 with (first
    | (go_at_call 16; refine KO.out.mono ?_; rintro e wa ⟨T,G,ev,rfl,hEa,hA⟩)
    | ((with_reducible refine zaw ?_); refine wpList_store_row rfl 23 _ _ rfl wa.heap.size T rfl rfl 23 _ (zbs wa _ _).1 (zbu hA).1 (zbu hA).2.1 (zbu hA).2.2.1 ?_)
    | ((with_reducible refine zaw ?_); refine wpList_store_row rfl 39 _ _ rfl (wa.heap.size + 1) G rfl rfl 39 _ (zen _ (zbs wa _ _).2 (Nat.lt_succ_self _)) (zbu hA).2.2.2.1 (zbu hA).2.2.2.2.1 (zbu hA).2.2.2.2.2 ?_))
   change Code.wp _ _ _ _ (stored2 wa T G)
   have hF:=zis wa T G
   generalize stored2 wa T G = wb at *
   obtain ⟨g14,hg14⟩ : ∃ g,g = wa.heap.size:=⟨_,rfl⟩
   obtain ⟨g15,hg15⟩ : ∃ g,g = wa.heap.size + 1:=⟨_,rfl⟩
   rw [← hg15,← hg14] at hF ⊢
   have HB:=veil (And.intro (H9.out.trans (hEa.trans hF.1)) hF.2)
   have e3:=neCodeNil
   have e4:=neNilNil
   clear hF hg14 hg15 hEa KO H9
   rcases hA with ⟨_,rfl,rfl,rfl⟩ | ⟨x,y,z,hop,rfl,rfl,rfl⟩
   ·
    go_wp2
    go_ret
    exact ⟨rfl,HB.out.1⟩
   ·
    have HO:=veil (zgn HS.out.2.2.2.1.1 hop)
    have KB : Hid (∀ W,Calls Tryz.prog 8 #[.agg (tkC x)] W fun e w' => ∃ u ev,e = .returned (.tuple #[u,ev]) ∧ Ext W w' ∧ BodyA w' x u ev):=veil (fun W => HC.out.body x W)
    clear hop
    go_upto_region 14 with (first
     | ((with_reducible refine zas 69 ?_); refine wpList_load_row rfl 23 _ rfl g14 rfl 23 (tkC x) (0,0) _ HB.out.2.1 Tryz.underlying23 rfl (iTk x) ?_)
     | (go_at_call 8; refine (KB.out _).mono ?_; rintro e wc ⟨u,ev,rfl,hEc,hA⟩))
    obtain ⟨⟨A3,c3,rfl,hc3,hB3⟩,rfl⟩:=bodyA_may hA HO.out.2.1
    have HD:=veil (And.intro (HB.out.1.trans hEc) (And.intro (hEc.block HB.out.2.2) hB3))
    have e5:=eqNilNil
    clear hA hEc HB KB hB3 e3 e4
    refine zfp 15 [(true,List.range 15)] (by kernel_rfl) (by kernel_rfl) fun Q' hQ' => ?_
    refine' zdm (A:=_) _ rfl (by kernel_rfl) ?h1 ?h2
    case h1 =>
     intro D' hD hN
     have k1 : ∀ v : Gw D',(convert 29 9 (.slice A3 55 c3)).run Tryz.prog v.val = .ok (.string (strL (tkB x))) v.val:=fun v => str_of (HD.out.2.2.ext (hD.grown _ v.property)) (zbt x).symm
     have k2 : ∀ v : Gw D',(convert 29 9 (.slice A m c)).run Tryz.prog v.val = .ok (.string (strL bs)) v.val:=fun v => str_of (HS.out.2.2.2.1.ext (HD.out.1.trans (hD.grown _ v.property))) HS.out.1
     have KS:=veil (fun v : Gw D' => hD.calls (f:=15) (args:=#[.string (strL (tkB x)),.agg (gc y z)]) (v:=.string (strL bs)) (fun W _ => by
      have h:=zgq HR.out (tkB x) (tkB_byt x) (by rw [zbt]; decide) y z W
      rw [HO.out.1] at h
      exact h) v)
     simp only [List.range,List.range.loop,pickI,consO,List.getElem?_cons_zero,List.getElem?_cons_succ]
     iterate 8 (go_big_quiet_step (fail))
     go_big_quiet_want
     refine zeu (.agg (gc y z)) (fun v => zcq rfl rfl (hD.block HD.out.2.1 v) Tryz.underlying39 rfl (iSg y z)) ?_
     simp only [aP,lA,lZ,lS]
     go_big_quiet_on
     repeat (go_big_quiet_step (exact KS.out _))
     exact zee
    refine zet hQ' fun wd hEd => ?_
    have hEz:=HD.out.1.trans hEd
    clear hQ' hEd HD e5
    go_wp2
    go_ret
    exact ⟨rfl,hEz⟩
  ·
   have HM:=veil (And.intro hmt (And.intro hmd (And.intro hsg (And.intro hc2 hB2))))
   obtain ⟨l,hl⟩ : ∃ l,l = (signedB (tkB t) r s).length:=⟨_,rfl⟩
   rw [← hl]
   have HLL:=veil hl
   obtain ⟨q,hq⟩ : ∃ q,q = qc (L.pub D).1 (L.pub D).2 false:=⟨_,rfl⟩
   have HQ:=veil (And.intro hq (And.intro (show (Tryz.prog.info? 48).map (·.size) = some q.size by rw [hq]; exact iT _ _ _) (And.intro (show q.all (·.oneCell') = true by rw [hq]; exact zdr _ _ _) (show 9 = q.size by rw [hq]; rfl))))
   have K1 : Hid (∀ W,Calls Tryz.prog 21 #[.agg (nc D)] W fun e w' => e = .returned (.tuple #[.agg q,.nilIface]) ∧ Ext W w'):=veil (fun W => by
    have h:=HC.out.pub D W HM.out.2.1
    unfold qv nv at h
    rw [← HQ.out.1] at h
    exact h)
   have K2 : Hid (∀ W,Ext w2 W → Calls Tryz.prog 18 #[.slice A2 l c2,.agg q] W fun e w' => e = .returned (.tuple #[.agg (tkC t),.nilIface]) ∧ Ext W w'):=veil (fun W hW => by
    have hp:=L.pubt D HM.out.2.1
    have h:=HC.out.check (L.pub D).1 (L.pub D).2 false A2 l c2 (signedB (tkB t) r s) W (HC.out.keep _ _ HS.out.2.2.1 (H2.out.1.trans hW)) hp.1 hp.2 HLL.out (by rw [HLL.out]; exact HM.out.2.2.2.1) (by rw [HLL.out]; exact signedB_short t r s) (HM.out.2.2.2.2.ext hW)
    rw [check_issued HM.out.1 HM.out.2.1 HM.out.2.2.1] at h
    unfold qv tkV at h
    rw [← HQ.out.1] at h
    exact h)
   have K3 : Hid (∀ W,Calls Tryz.prog 22 #[.agg q] W fun e w' => e = .returned (.bool true) ∧ Ext W w'):=veil (fun W => by
    have h:=HC.out.on D W HM.out.2.1
    unfold qv at h
    rw [← HQ.out.1] at h
    exact h)
   clear hmt hmd hsg hc2 hB2 hl hq
   go_upto_region 7 with (first
    | ((with_reducible refine zas 33 ?_); refine wpList_load_row rfl 26 _ rfl g4 rfl 26 (nc D) (0,0) _ H2.out.2.2 Tryz.underlying26 rfl (iN D) ?_)
    | (go_at_call 21; refine (K1.out _).mono ?_; rintro e w3 ⟨rfl,hE3⟩)
    | ((with_reducible refine zaw ?_); refine wpList_store_row rfl 48 _ _ rfl w3.heap.size q rfl rfl 48 _ (zar w3 _) HQ.out.2.1 HQ.out.2.2.2 HQ.out.2.2.1 ?_; rw [World.setRow_alloc_new]))
   have h10:=zar w3 (.cells q 48)
   have hE4:=hE3.trans (Ext.alloc w3 (.cells q 48))
   obtain ⟨g10,hg10⟩ : ∃ g,g = w3.heap.size:=⟨_,rfl⟩
   rw [← hg10] at h10 ⊢
   generalize w3.alloc (.cells q 48) = w4 at *
   have H4:=veil (And.intro hE4 (And.intro (hE4.block H2.out.2.1) h10))
   clear hE3 hE4 h10 hg10 K1
   go_upto_region 8 with (first
    | ((with_reducible refine zas 39 ?_); refine wpList_load_row rfl 48 _ rfl g10 rfl 48 q (0,0) _ H4.out.2.2 Tryz.underlying48 rfl HQ.out.2.1 ?_)
    | (go_at_call 18; refine (K2.out _ H4.out.1).mono ?_; rintro e w5 ⟨rfl,hE5⟩)
    | ((with_reducible refine zaw ?_); refine wpList_store_row rfl 23 _ _ rfl w5.heap.size (tkC t) rfl rfl 23 _ (zar w5 _) (iTk t) rfl (zde t) ?_; rw [World.setRow_alloc_new]))
   have h12:=zar w5 (.cells (tkC t) 23)
   have hE6:=hE5.trans (Ext.alloc w5 (.cells (tkC t) 23))
   obtain ⟨g12,hg12⟩ : ∃ g,g = w5.heap.size:=⟨_,rfl⟩
   rw [← hg12] at h12 ⊢
   generalize w5.alloc (.cells (tkC t) 23) = w6 at *
   have H6:=veil (And.intro (H4.out.1.trans hE6) (And.intro (hE6.block H4.out.2.1) (And.intro (hE6.block H4.out.2.2) h12)))
   have ht:=ok_may HM.out.1
   have n1 : ∀ W,(binOp .neq 23 (.agg (tkC t)) (.agg (tkC t))).run Tryz.prog W = .ok (.bool false) W:=fun W => neT9 ht W
   have n3 : ∀ op x y W,(eqGuard op 23 x y (.agg (tkC t)) (.agg (tkC t))).run Tryz.prog W = .ok () W:=fun op x y W => gT9 t t op x y W
   have n6:=neNilNil
   clear hE5 hE6 h12 hg12 H4 K2 ht
   go_upto_region 10 with (first
    | ((with_reducible refine zas 50 ?_); refine wpl_rowG rfl 23 _ rfl g12 rfl 23 (tkC t) (0,0) _ H6.out.2.2.2 Tryz.underlying23 rfl (iTk t) ?_)
    | ((with_reducible refine zas 51 ?_); refine wpl_rowG rfl 23 _ rfl g3 rfl 23 (tkC t) (0,0) _ H6.out.2.1 Tryz.underlying23 rfl (iTk t) ?_)
    | ((with_reducible refine zas 55 ?_); refine wpl_rowG rfl 48 _ rfl g10 rfl 48 q (0,0) _ H6.out.2.2.1 Tryz.underlying48 rfl HQ.out.2.1 ?_)
    | (go_at_call 22; refine (K3.out _).mono ?_; rintro e w7 ⟨rfl,hE7⟩))
   have H9:=veil (H2.out.1.trans (H6.out.1.trans hE7))
   clear hA H2 H6 hE7 n1 n3 n6 K3 HM HLL HQ e1 e2
   have KO:=veil (HC.out.open_ A m c bs w7 HS.out.1 HS.out.2.1 HL.out (HS.out.2.2.2.1.ext H9.out))
   go_upto_region 11 with (first
    | (go_at_call 16; refine KO.out.mono ?_; rintro e wa ⟨T,G,ev,rfl,hEa,hA⟩)
    | ((with_reducible refine zaw ?_); refine wpList_store_row rfl 23 _ _ rfl wa.heap.size T rfl rfl 23 _ (zbs wa _ _).1 (zbu hA).1 (zbu hA).2.1 (zbu hA).2.2.1 ?_)
    | ((with_reducible refine zaw ?_); refine wpList_store_row rfl 39 _ _ rfl (wa.heap.size + 1) G rfl rfl 39 _ (zen _ (zbs wa _ _).2 (Nat.lt_succ_self _)) (zbu hA).2.2.2.1 (zbu hA).2.2.2.2.1 (zbu hA).2.2.2.2.2 ?_))
   change Code.wp _ _ _ _ (stored2 wa T G)
   have hF:=zis wa T G
   generalize stored2 wa T G = wb at *
   obtain ⟨g14,hg14⟩ : ∃ g,g = wa.heap.size:=⟨_,rfl⟩
   obtain ⟨g15,hg15⟩ : ∃ g,g = wa.heap.size + 1:=⟨_,rfl⟩
   rw [← hg15,← hg14] at hF ⊢
   have HB:=veil (And.intro (H9.out.trans (hEa.trans hF.1)) hF.2)
   have e3:=neCodeNil
   have e4:=neNilNil
   clear hF hg14 hg15 hEa KO H9
   rcases hA with ⟨_,rfl,rfl,rfl⟩ | ⟨x,y,z,hop,rfl,rfl,rfl⟩
   ·
    go_wp2
    go_ret
    exact ⟨rfl,HB.out.1⟩
   ·
    have HO:=veil (zgn HS.out.2.2.2.1.1 hop)
    have KB : Hid (∀ W,Calls Tryz.prog 8 #[.agg (tkC x)] W fun e w' => ∃ u ev,e = .returned (.tuple #[u,ev]) ∧ Ext W w' ∧ BodyA w' x u ev):=veil (fun W => HC.out.body x W)
    clear hop
    go_upto_region 14 with (first
     | ((with_reducible refine zas 69 ?_); refine wpList_load_row rfl 23 _ rfl g14 rfl 23 (tkC x) (0,0) _ HB.out.2.1 Tryz.underlying23 rfl (iTk x) ?_)
     | (go_at_call 8; refine (KB.out _).mono ?_; rintro e wc ⟨u,ev,rfl,hEc,hA⟩))
    obtain ⟨⟨A3,c3,rfl,hc3,hB3⟩,rfl⟩:=bodyA_may hA HO.out.2.1
    have HD:=veil (And.intro (HB.out.1.trans hEc) (And.intro (hEc.block HB.out.2.2) hB3))
    have e5:=eqNilNil
    clear hA hEc HB KB hB3 e3 e4
    refine zfp 15 [(true,List.range 15)] (by kernel_rfl) (by kernel_rfl) fun Q' hQ' => ?_
    refine' zdm (A:=_) _ rfl (by kernel_rfl) ?j1 ?j2
    case j1 =>
     intro D' hD hN
     have k1 : ∀ v : Gw D',(convert 29 9 (.slice A3 55 c3)).run Tryz.prog v.val = .ok (.string (strL (tkB x))) v.val:=fun v => str_of (HD.out.2.2.ext (hD.grown _ v.property)) (zbt x).symm
     have k2 : ∀ v : Gw D',(convert 29 9 (.slice A m c)).run Tryz.prog v.val = .ok (.string (strL bs)) v.val:=fun v => str_of (HS.out.2.2.2.1.ext (HD.out.1.trans (hD.grown _ v.property))) HS.out.1
     have KS:=veil (fun v : Gw D' => hD.calls (f:=15) (args:=#[.string (strL (tkB x)),.agg (gc y z)]) (v:=.string (strL bs)) (fun W _ => by
      have h:=zgq HR.out (tkB x) (tkB_byt x) (by rw [zbt]; decide) y z W
      rw [HO.out.1] at h
      exact h) v)
     simp only [List.range,List.range.loop,pickI,consO,List.getElem?_cons_zero,List.getElem?_cons_succ]
     iterate 8 (go_big_quiet_step (fail))
     go_big_quiet_want
     refine zeu (.agg (gc y z)) (fun v => zcq rfl rfl (hD.block HD.out.2.1 v) Tryz.underlying39 rfl (iSg y z)) ?_
     simp only [aP,lA,lZ,lS]
     go_big_quiet_on
     repeat (go_big_quiet_step (exact KS.out _))
     exact zee
    refine zet hQ' fun wd hEd => ?_
    have hEz:=HD.out.1.trans hEd
    clear hQ' hEd HD e5
    go_wp2
    go_ret
    exact ⟨rfl,hEz⟩
section
variable {P : Program} {Q : Exit → Act → World → Prop} {l : List Oper} {m : Nat} {a : Act} {w : World} {ty t : TypeId} {zs cells : Array Value} {d de : Tmp} {y : Operand}
theorem run_ext {o : Oper} {x : Operand} {i : Nat} {vs : Array Value} {v : Value} (ho : o.op = .extract x i) (hx : a.eval x = .tuple vs) (hv : vs[i]? = some v) (W : World) : (execOp a.eval o).run P W = .ok (.value v) W:=by
 unfold execOp
 simp only [ho]
 generalize a.eval = ρ at *
 rw [hx]
 simp [Instr.extract,go_sem,hv]
theorem zim {i : Nat} {o : Oper} {ops : Array Oper} {v : Value} {K : Act → World → Prop} {a : Act} {w : World} (ho : ops[i]? = some o) (hg : o.guard = none) (he : (execOp a.eval o).run P w = .ok (.value v) w) (h : K (a.put o.dst v) w) : wpOp P ops Q i K a w:=by
 refine zbe ho hg ?_
 unfold Oper.wp
 rw [he,Oper.upon_value]
 exact h
theorem rest_var2 {v vx : Value} {z : Operand} {dx : Tmp} (ox oa os oe : Oper) (hlen : l.length = m + 4) (hox : l.toArray[m]? = some ox) (hoa : l.toArray[m + 1]? = some oa) (hos : l.toArray[m + 2]? = some os) (hoe : l.toArray[m + 3]? = some oe) (hoa2 : oa.op = .alloc ty) (ho : os.op = .store ty (.tmp d) y) (hoe2 : oe.op = .assign z)
  (hdx : ox.dst = some dx) (hda : oa.dst = some d) (hd : os.dst = none) (hde : oe.dst = some de) (hgx : ox.guard = none) (hga : oa.guard = none) (hg : os.guard = none) (hge : oe.guard = none) (hne : dx ≠ d)
  (hr : Region.ready .any l.toArray (marked m 0 (Array.replicate l.length false)) = [m,m + 1]) (hr1 : Region.ready .any l.toArray (marked (m + 1) 0 (Array.replicate l.length false)) = [m + 1]) (hr2 : Region.ready .any l.toArray (marked (m + 2) 0 (Array.replicate l.length false)) = [m + 2]) (hr3 : Region.ready .any l.toArray (marked (m + 3) 0 (Array.replicate l.length false)) = [m + 3]) (hr4 : Region.ready .any l.toArray (marked (m + 4) 0 (Array.replicate l.length false)) = [])
  (hrb : Region.ready .any l.toArray ((marked m 0 (Array.replicate l.length false)).setIfInBounds (m + 1) true) = [m,m + 2])
  (hrc : Region.ready .any l.toArray (((marked m 0 (Array.replicate l.length false)).setIfInBounds (m + 1) true).setIfInBounds (m + 2) true) = [m])
  (hmk : (marked m 0 (Array.replicate l.length false)).setIfInBounds m true = marked (m + 1) 0 (Array.replicate l.length false))
  (hmk1 : (marked (m + 1) 0 (Array.replicate l.length false)).setIfInBounds (m + 1) true = marked (m + 2) 0 (Array.replicate l.length false))
  (hmkb : ((marked m 0 (Array.replicate l.length false)).setIfInBounds (m + 1) true).setIfInBounds m true = marked (m + 2) 0 (Array.replicate l.length false))
  (hmk2 : (marked (m + 2) 0 (Array.replicate l.length false)).setIfInBounds (m + 2) true = marked (m + 3) 0 (Array.replicate l.length false))
  (hmkc : (((marked m 0 (Array.replicate l.length false)).setIfInBounds (m + 1) true).setIfInBounds (m + 2) true).setIfInBounds m true = marked (m + 3) 0 (Array.replicate l.length false))
  (hmk3 : (marked (m + 3) 0 (Array.replicate l.length false)).setIfInBounds (m + 3) true = marked (m + 4) 0 (Array.replicate l.length false))
  (hz : ∀ W,(Instr.alloc ty true (.tuple #[])).run P W = .ok (ptrTo W.heap.size) (W.alloc (.cells zs t)))
  (hxv : ∀ W,(execOp a.eval ox).run P W = .ok (.value vx) W) (hxv2 : ∀ g W,(execOp (a.put (some d) (ptrTo g)).eval ox).run P W = .ok (.value vx) W)
  (hx : ∀ g,(a.put (some d) (ptrTo g)).eval (.tmp d) = ptrTo g) (hx2 : ∀ g,((a.put (some dx) vx).put (some d) (ptrTo g)).eval (.tmp d) = ptrTo g)
  (hy : ∀ g,(a.put (some d) (ptrTo g)).eval y = .agg cells) (hy2 : ∀ g,((a.put (some dx) vx).put (some d) (ptrTo g)).eval y = .agg cells) (hze : ∀ g,((a.put (some dx) vx).put (some d) (ptrTo g)).eval z = v)
  (hi : (P.info? ty).map (·.size) = some cells.size) (hold : zs.size = cells.size) (h1 : cells.all (·.oneCell') = true)
  (h : ∀ g W,w.heap.size ≤ g → W.heap[g]? = some (.cells cells t (0,0)) → Ext w W → Q .normal (((a.put (some dx) vx).put (some d) (ptrTo g)).put (some de) v) W) : Rest P l Q m (m + 2) a w:=by
 have comm : ∀ g,(a.put (some d) (ptrTo g)).put (some dx) vx = (a.put (some dx) vx).put (some d) (ptrTo g):=fun g => (Act.put_comm a vx (ptrTo g) (by simpa using hne.symm)).symm
 -- the assign,at last
 have fin : ∀ (f : Nat) (g : Nat) (W : World),w.heap.size ≤ g → W.heap[g]? = some (.cells cells t (0,0)) → Ext w W → wpG P .any l.toArray Q (m + 2) (f + 1) (marked (m + 3) 0 (Array.replicate l.length false)) ((a.put (some dx) vx).put (some d) (ptrTo g)) W:=fun f g W hg' hb hE => by
  refine ⟨fun h0 => (by rw [hr3] at h0; cases h0),fun j hj W3 hW3 => ?_⟩
  rw [hr3] at hj
  obtain rfl : j = m + 3:=by simpa using hj
  refine zim (v:=v) hoe hge (by unfold execOp; simp only [hoe2,hze,Sem.run_pure]) ⟨fun h0 => by omega,?_⟩
  rw [hmk3,hde]
  cases f with
  | zero => exact ⟨hr4,fun W4 hW4 => h g W4 hg' ((hW3.trans hW4).block hb) (hE.trans (hW3.trans hW4))⟩
  | succ f => exact ⟨fun _ W4 hW4 => h g W4 hg' ((hW3.trans hW4).block hb) (hE.trans (hW3.trans hW4)),fun j hj => by rw [hr4] at hj; cases hj⟩
 unfold Rest
 rw [show l.length - m = 0 + 1 + 1 + 1 + 1 by omega]
 refine ⟨fun h0 => (by rw [hr] at h0; cases h0),fun i hi' W hW => ?_⟩
 rw [hr] at hi'
 obtain rfl | rfl : i = m ∨ i = m + 1:=by simpa using hi'
 ·
  -- the result first
  refine zim hox hgx (hxv W) ⟨fun _ => Ext.refl _,?_⟩
  rw [hmk,hdx]
  refine ⟨fun h0 => (by rw [hr1] at h0; cases h0),fun j hj W1 hW1 => ?_⟩
  rw [hr1] at hj
  obtain rfl : j = i + 1:=by simpa using hj
  refine zbe hoa hga (zbx hoa2 hz ⟨fun _ => Ext.alloc _ _,?_⟩)
  rw [hmk1,hda]
  refine ⟨fun h0 => (by rw [hr2] at h0; cases h0),fun j hj W2 hW2 => ?_⟩
  rw [hr2] at hj
  obtain rfl : j = i + 2:=by simpa using hj
  refine zbe hos hg (wp_store_row ty _ y ho W1.heap.size cells (hx2 _) (hy2 _) t zs (hW2.block (zar _ _)) hi hold h1 ⟨fun h0 => absurd h0 (Nat.lt_irrefl _),?_⟩)
  rw [hmk2,hd]
  exact fin _ _ _ (Nat.le_trans (Below.size hW) (Below.size hW1)) (setRow_heap W2 _ zs cells t (0,0) (hW2.block (zar _ _))) (zbj ((hW.trans hW1).trans ((Ext.alloc _ _).trans hW2)) (Nat.le_trans (Below.size hW) (Below.size hW1)) cells)
 ·
  -- the variable first
  refine zbe hoa hga (zbx hoa2 hz ⟨fun _ => Ext.alloc _ _,?_⟩)
  rw [hda]
  refine ⟨fun h0 => (by rw [hrb] at h0; cases h0),fun j hj W1 hW1 => ?_⟩
  rw [hrb] at hj
  obtain rfl | rfl : j = m ∨ j = m + 2:=by simpa using hj
  ·
   refine zim hox hgx (hxv2 _ W1) ⟨fun _ => Ext.refl _,?_⟩
   rw [hmkb,hdx,comm]
   refine ⟨fun h0 => (by rw [hr2] at h0; cases h0),fun k hk W2 hW2 => ?_⟩
   rw [hr2] at hk
   obtain rfl : k = j + 2:=by simpa using hk
   refine zbe hos hg (wp_store_row ty _ y ho W.heap.size cells (hx2 _) (hy2 _) t zs ((hW1.trans hW2).block (zar _ _)) hi hold h1 ⟨fun h0 => absurd h0 (Nat.lt_irrefl _),?_⟩)
   rw [hmk2,hd]
   exact fin _ _ _ (Below.size hW) (setRow_heap W2 _ zs cells t (0,0) ((hW1.trans hW2).block (zar _ _))) (zbj (hW.trans ((Ext.alloc _ _).trans (hW1.trans hW2))) (Below.size hW) cells)
  ·
   refine zbe hos hg (wp_store_row ty _ y ho W.heap.size cells (hx _) (hy _) t zs (hW1.block (zar _ _)) hi hold h1 ⟨fun h0 => absurd h0 (Nat.lt_irrefl _),?_⟩)
   rw [hd]
   have hb2:=setRow_heap W1 W.heap.size zs cells t (0,0) (hW1.block (zar _ _))
   have hE2 : Ext w (W1.setRow W.heap.size cells):=zbj (hW.trans ((Ext.alloc _ _).trans hW1)) (Below.size hW) cells
   refine ⟨fun h0 => (by rw [hrc] at h0; cases h0),fun k hk W2 hW2 => ?_⟩
   rw [hrc] at hk
   obtain rfl : k = m:=by simpa using hk
   refine zim hox hgx (hxv2 _ W2) ⟨fun _ => Ext.refl _,?_⟩
   rw [hmkc,hdx]
   show wpG P .any l.toArray Q (k + 2) (0 + 1) _ ((a.put (some d) (ptrTo W.heap.size)).put (some dx) vx) W2
   rw [comm]
   exact fin _ _ _ (Below.size hW) (hW2.block hb2) (hE2.trans hW2)
theorem made_index {o : Oper} {ty e : TypeId} {x k : Operand} {g n cap i sz : Nat} (ho : o.op = .indexAddr ty x k) (hx : a.eval x = .slice (some ⟨g,0,none⟩) n cap) (hk : a.eval k = .int .i64 (i : Int)) (hi : i < n) (hu : P.underlying ty = some (.slice e)) (hs : (P.info? e).map (·.size) = some sz) : Made P o (.pointer (some ⟨g,i * sz,none⟩)) a w:=zcd fun W _ => by
 obtain ⟨inf,h1,h2⟩ : ∃ inf,P.info? e = some inf ∧ inf.size = sz:=by
  cases h : P.info? e with
  | none => simp [h] at hs
  | some inf => exact ⟨inf,rfl,by simpa [h] using hs⟩
 unfold execOp
 simp only [ho,hx,hk]
 simp [Instr.indexAt,asIntOf,run_underlying hu,sizeOf,typeInfo,h1,h2,hi,Result.andThen_ok,Addr.add_mid]
end
end Go.Proofs.YtedehdbajiaaiaaGreatDoor
namespace Go.Proofs.YtedehdbajiaaiaaGreatDoor
def rot (x n : Nat) : Nat:=x / 2 ^ n + 2 ^ (32 - n) * (x % 2 ^ n)
theorem zdd {x n : Nat} (hn : n ≤ 32) (hx : x < 2 ^ 32) : rot x n < 2 ^ 32:=by
 have hp : 0 < 2 ^ n:=Nat.pow_pos (by omega)
 have e : 2 ^ 32 = 2 ^ (32 - n) * 2 ^ n:=by rw [← Nat.pow_add]; congr 1; omega
 have hq : x / 2 ^ n < 2 ^ (32 - n):=by rw [Nat.div_lt_iff_lt_mul hp,← e]; exact hx
 have hr:=Nat.mod_lt x hp
 unfold rot
 rw [e]
 have : 2 ^ (32 - n) * (x % 2 ^ n + 1) ≤ 2 ^ (32 - n) * 2 ^ n:=Nat.mul_le_mul_left _ hr
 rw [Nat.mul_add] at this
 omega
end Go.Proofs.YtedehdbajiaaiaaGreatDoor
namespace Go.Proofs.YtedehdbajiaaiaaGreatDoor
def kList : List Nat:=[1116352408,1899447441,3049323471,3921009573,961987163,1508970993,2453635748,2870763221,3624381080,310598401,607225278,1426881987,1925078388,2162078206,2614888103,3248222580,3835390401,4022224774,264347078,604807628,770255983,1249150122,1555081692,1996064986,2554220882,2821834349,2952996808,3210313671,3336571891,3584528711,113926993,338241895,666307205,773529912,1294757372,1396182291,1695183700,1986661051,2177026350,2456956037,2730485921,2820302411,3259730800,3345764771,3516065817,3600352804,4094571909,275423344,430227734,506948616,659060556,883997877,958139571,1322822218,1537002063,1747873779,1955562222,2024104815,2227730452,2361852424,2428436474,2756734187,3204031479,3329325298]
def kc (t : Nat) : Nat:=kList.getD t 0
def ad (x y : Nat) : Nat:=(x + y) % 4294967296
def sg0 (x : Nat) : Nat:=rot x 7 ^^^ rot x 18 ^^^ (x / 2 ^ 3)
def sg1 (x : Nat) : Nat:=rot x 17 ^^^ rot x 19 ^^^ (x / 2 ^ 10)
def bs0 (x : Nat) : Nat:=rot x 2 ^^^ rot x 13 ^^^ rot x 22
def bs1 (x : Nat) : Nat:=rot x 6 ^^^ rot x 11 ^^^ rot x 25
def chN (x y z : Nat) : Nat:=(x &&& y) ^^^ ((4294967295 - x) &&& z)
def majN (x y z : Nat) : Nat:=(x &&& y) ^^^ (x &&& z) ^^^ (y &&& z)
theorem getD_lo (l r : List Nat) {t : Nat} (h : t < l.length) : (l ++ r).getD t 0 = l.getD t 0:=by simp [List.getD,List.getElem?_append_left h]
theorem getD_at (l : List Nat) (x : Nat) {t : Nat} (h : l.length = t) : (l ++ [x]).getD t 0 = x:=by subst h; simp [List.getD]
def sched (m : Nat → Nat) : Nat → List Nat
 | 0 => []
 | t + 1 => let l:=sched m t
  l ++ [if t < 16 then m t else ad (ad (ad (sg1 (l.getD (t - 2) 0)) (l.getD (t - 7) 0)) (sg0 (l.getD (t - 15) 0))) (l.getD (t - 16) 0)]
theorem zhk (m : Nat → Nat) : ∀ t,(sched m t).length = t
 | 0 => rfl
 | t + 1 => by simp [sched,zhk m t]
def wt (m : Nat → Nat) (t : Nat) : Nat:=(sched m (t + 1)).getD t 0
theorem zey (m : Nat → Nat) (t : Nat) : ∀ n,t < n → (sched m n).getD t 0 = wt m t
 | 0,h => by omega
 | n + 1,h => by
  by_cases e : t = n
  ·
   subst e; rfl
  ·
   have ih:=zey m t n (by omega)
   rw [← ih]
   show (sched m n ++ _).getD t 0 = _
   rw [getD_lo _ _ (by rw [zhk]; omega)]
theorem wt_lo (m : Nat → Nat) {t : Nat} (h : t < 16) : wt m t = m t:=by
 unfold wt
 show (sched m t ++ _).getD t 0 = _
 rw [getD_at _ _ (zhk m t),if_pos h]
theorem wt_hi (m : Nat → Nat) {t : Nat} (h : ¬ t < 16) : wt m t = ad (ad (ad (sg1 (wt m (t - 2))) (wt m (t - 7))) (sg0 (wt m (t - 15)))) (wt m (t - 16)):=by
 conv => lhs; unfold wt
 show (sched m t ++ _).getD t 0 = _
 rw [getD_at _ _ (zhk m t),if_neg h,zey m _ t (by omega),zey m _ t (by omega),zey m _ t (by omega),zey m _ t (by omega)]
structure St where
 a : Nat
 b : Nat
 c : Nat
 d : Nat
 e : Nat
 f : Nat
 g : Nat
 h : Nat
def t1N (s : St) (k w : Nat) : Nat:=ad (ad (ad (ad s.h (bs1 s.e)) (chN s.e s.f s.g)) k) w
def t2N (s : St) : Nat:=ad (bs0 s.a) (majN s.a s.b s.c)
def stepN (s : St) (k w : Nat) : St:=⟨ad (t1N s k w) (t2N s),s.a,s.b,s.c,ad s.d (t1N s k w),s.e,s.f,s.g⟩
def roundsN (m : Nat → Nat) (s : St) : Nat → St
 | 0 => s
 | t + 1 => stepN (roundsN m s t) (kc t) (wt m t)
def addSt (x y : St) : St:=⟨ad x.a y.a,ad x.b y.b,ad x.c y.c,ad x.d y.d,ad x.e y.e,ad x.f y.f,ad x.g y.g,ad x.h y.h⟩
def blockN (m : Nat → Nat) (s : St) : St:=addSt s (roundsN m s 64)
def word (text : Nat → Nat) (i : Nat) : Nat:=text i * 16777216 + text (i + 1) * 65536 + text (i + 2) * 256 + text (i + 3)
def blocksN (text : Nat → Nat) : Nat → St
 | 0 => ⟨1779033703,3144134277,1013904242,2773480762,1359893119,2600822924,528734635,1541459225⟩
 | n + 1 => blockN (fun t => word text (64 * n + 4 * t)) (blocksN text n)
def nBlocks (len : Nat) : Nat:=(len + 9 + 63) / 64
def padded (b : Nat → Nat) (len : Nat) : Nat → Nat:=fun i =>
 if i < len then b i else if i = len then 128 else if i < 64 * nBlocks len - 8 then 0 else 8 * len / 256 ^ (64 * nBlocks len - 1 - i) % 256
def shaSt (b : Nat → Nat) (len : Nat) : St:=blocksN (padded b len) (nBlocks len)
end Go.Proofs.YtedehdbajiaaiaaGreatDoor
namespace Go.Proofs.YtedehdbajiaaiaaGreatDoor
theorem wrap32 (n : Int) : IntKind.u32.wrap n = n % 4294967296:=by simp [IntKind.wrap,IntKind.signed,IntKind.bits]
section
variable (a b : Nat) (ha : a < 4294967296) (hb : b < 4294967296)
include ha hb
theorem ofInt32 : (BitVec.ofInt 32 (a : Int)).toNat = a ∧ (BitVec.ofInt 32 (b : Int)).toNat = b:=by
 constructor <;> (rw [BitVec.ofInt_natCast,BitVec.toNat_ofNat]; exact Nat.mod_eq_of_lt (by omega))
theorem and32 : bits .and .u32 (a : Int) (b : Int) = ((a &&& b : Nat) : Int):=by
 have hx : a &&& b < 2 ^ 32:=Nat.and_lt_two_pow _ (by omega)
 show IntKind.u32.wrap ((BitVec.ofInt 32 (a : Int) &&& BitVec.ofInt 32 (b : Int)).toNat : Int) = _
 rw [BitVec.toNat_and,(ofInt32 a b ha hb).1,(ofInt32 a b ha hb).2,wrap32]
 omega
theorem or32 : bits .or .u32 (a : Int) (b : Int) = ((a ||| b : Nat) : Int):=by
 have hx : a ||| b < 2 ^ 32:=Nat.or_lt_two_pow (by omega) (by omega)
 show IntKind.u32.wrap ((BitVec.ofInt 32 (a : Int) ||| BitVec.ofInt 32 (b : Int)).toNat : Int) = _
 rw [BitVec.toNat_or,(ofInt32 a b ha hb).1,(ofInt32 a b ha hb).2,wrap32]
 omega
theorem xor32 : bits .xor .u32 (a : Int) (b : Int) = ((a ^^^ b : Nat) : Int):=by
 have hx : a ^^^ b < 2 ^ 32:=Nat.xor_lt_two_pow (by omega) (by omega)
 show IntKind.u32.wrap ((BitVec.ofInt 32 (a : Int) ^^^ BitVec.ofInt 32 (b : Int)).toNat : Int) = _
 rw [BitVec.toNat_xor,(ofInt32 a b ha hb).1,(ofInt32 a b ha hb).2,wrap32]
 omega
end
theorem not_bit {x : Nat} (hx : x < 2 ^ 32) (i : Nat) : (4294967295 - x).testBit i = (decide (i < 32) && !x.testBit i):=by
 have h:=Nat.testBit_two_pow_sub_succ hx i
 rwa [show 2 ^ 32 - (x + 1) = 4294967295 - x by omega] at h
theorem rot_or {x n : Nat} (hn : n ≤ 32) (hx : x < 2 ^ 32) : rot x n = (x / 2 ^ n) ||| (x * 2 ^ (32 - n) % 2 ^ 32):=by
 have hp : 0 < 2 ^ n:=Nat.pow_pos (by omega)
 have e : 2 ^ 32 = 2 ^ (32 - n) * 2 ^ n:=by rw [← Nat.pow_add]; congr 1; omega
 have hq : x / 2 ^ n < 2 ^ (32 - n):=by rw [Nat.div_lt_iff_lt_mul hp,← e]; exact hx
 have h1 : x * 2 ^ (32 - n) % 2 ^ 32 = 2 ^ (32 - n) * (x % 2 ^ n):=by rw [e,Nat.mul_comm x,Nat.mul_mod_mul_left]
 rw [h1,Nat.or_comm,← Nat.two_pow_add_eq_or_of_lt hq]
 unfold rot
 omega
/-! ### all is below 2^32 -/
theorem ad_lt (x y : Nat) : ad x y < 2 ^ 32:=Nat.mod_lt _ (by decide)
theorem shr_lt {x : Nat} (n : Nat) (hx : x < 2 ^ 32) : x / 2 ^ n < 2 ^ 32:=Nat.lt_of_le_of_lt (Nat.div_le_self _ _) hx
theorem wt_lt {m : Nat → Nat} (hm : ∀ t,t < 16 → m t < 2 ^ 32) (t : Nat) : wt m t < 2 ^ 32:=by
 by_cases h : t < 16
 ·
  rw [wt_lo m h]; exact hm t h
 ·
  rw [wt_hi m h]; exact ad_lt _ _
structure St.Ok (s : St) : Prop where
 a : s.a < 2 ^ 32
 b : s.b < 2 ^ 32
 c : s.c < 2 ^ 32
 d : s.d < 2 ^ 32
 e : s.e < 2 ^ 32
 f : s.f < 2 ^ 32
 g : s.g < 2 ^ 32
 h : s.h < 2 ^ 32
theorem stepN_ok {s : St} (h : s.Ok) (k w : Nat) : (stepN s k w).Ok:=⟨ad_lt _ _,h.a,h.b,h.c,ad_lt _ _,h.e,h.f,h.g⟩
theorem roundsN_ok {m : Nat → Nat} {s : St} (h : s.Ok) : ∀ t,(roundsN m s t).Ok
 | 0 => h
 | t + 1 => stepN_ok (roundsN_ok h t) _ _
theorem blockN_ok (m : Nat → Nat) (s : St) : (blockN m s).Ok:=⟨ad_lt _ _,ad_lt _ _,ad_lt _ _,ad_lt _ _,ad_lt _ _,ad_lt _ _,ad_lt _ _,ad_lt _ _⟩
theorem blocksN_ok (text : Nat → Nat) : ∀ n,(blocksN text n).Ok
 | 0 => by constructor <;> (show _ < _; simp [blocksN])
 | n + 1 => blockN_ok _ _
theorem zhz {f g : Nat → Nat} : ∀ n,(∀ i,i < 64 * n → f i = g i) → blocksN f n = blocksN g n
 | 0,_ => rfl
 | n + 1,h => by
  have ih:=zhz n fun i hi => h i (by omega)
  have hw : ∀ t,t < 16 → word f (64 * n + 4 * t) = word g (64 * n + 4 * t):=by
   intro t ht
   unfold word
   rw [h _ (by omega),h _ (by omega),h _ (by omega),h _ (by omega)]
  have hs : ∀ k,sched (fun t => word f (64 * n + 4 * t)) k = sched (fun t => word g (64 * n + 4 * t)) k:=by
   intro k
   induction k with
   | zero => simp only [sched]
   | succ k ihk =>
    simp only [sched]
    rw [ihk]
    by_cases hk : k < 16
    ·
     simp only [if_pos hk]; rw [hw k hk]
    ·
     simp only [if_neg hk]
  have hr : ∀ s k,roundsN (fun t => word f (64 * n + 4 * t)) s k = roundsN (fun t => word g (64 * n + 4 * t)) s k:=by
   intro s k
   induction k with
   | zero => simp only [roundsN]
   | succ k ihk =>
    simp only [roundsN]
    rw [ihk]; unfold wt; rw [hs]
  simp only [blocksN]
  rw [ih]; unfold blockN; rw [hr]
end Go.Proofs.YtedehdbajiaaiaaGreatDoor
namespace Go.Proofs.YtedehdbajiaaiaaGreatDoor
open Go.RowKit
open Go.Value renaming int → vI
open Go.IntKind renaming u64 → vU
open Go.Act renaming put → aP
open List renaming setIfInBounds_toArray → lA, set_cons_zero → lZ, set_cons_succ → lS
def St.at (s : St) (j : Nat) : Nat:=match j with | 0 => s.a | 1 => s.b | 2 => s.c | 3 => s.d | 4 => s.e | 5 => s.f | 6 => s.g | _ => s.h
def hcells (s : St) (blk : Nat → Nat) (len : Nat) : Nat → Value:=fun j => if j < 8 then .int .u32 (s.at j : Nat) else if j < 72 then .int .u8 (blk (j - 8) : Nat) else .int .i64 (len : Int)
def HRow (w : World) (g : Nat) (s : St) (blk : Nat → Nat) (len : Nat) : Prop:=w.rowIs g 163 73 (hcells s blk len)
section
variable {w w' : World} {g B len : Nat} {s : St} {blk : Nat → Nat}
theorem HRow.lt (h : HRow w g s blk len) : g < w.heap.size:=World.rowIs.lt h
theorem HRow.below (h : HRow w g s blk len) (hb : Below B w w') (hlt : g < B) : HRow w' g s blk len:=zag h hb hlt
theorem HRow.call (h : HRow w g s blk len) (hb : Below w.heap.size w w') : HRow w' g s blk len:=zag h hb h.lt
theorem HRow.alloc (h : HRow w g s blk len) (o : Obj) : HRow (w.alloc o) g s blk len:=World.rowIs.alloc h o
theorem HRow.drew (h : HRow w g s blk len) : HRow w.drew g s blk len:=h
theorem HRow.drewN (h : HRow w g s blk len) (k : Nat) : HRow (w.drewN k) g s blk len:=h
theorem HRow.of_block (h : HRow w g s blk len) (e : w'.heap[g]? = w.heap[g]?) : HRow w' g s blk len:=World.rowIs.of_block h e
theorem HRow.state (h : HRow w g s blk len) {j : Nat} (hj : j < 8) : w.cell? ⟨g,j,none⟩ = some (.int .u32 (s.at j : Nat)):=by
 rw [World.rowIs.cell h (show j < 73 by omega),hcells,if_pos hj]
theorem HRow.byte (h : HRow w g s blk len) {j : Nat} (hj : j < 64) : w.cell? ⟨g,8 + j,none⟩ = some (.int .u8 (blk j : Nat)):=by
 rw [World.rowIs.cell h (show 8 + j < 73 by omega),hcells,if_neg (by omega),if_pos (by omega),show 8 + j - 8 = j by omega]
theorem HRow.length (h : HRow w g s blk len) : w.cell? ⟨g,72,none⟩ = some (.int .i64 (len : Int)):=by
 rw [World.rowIs.cell h (show 72 < 73 by omega),hcells,if_neg (by omega),if_neg (by omega)]
theorem HRow.block (h : HRow w g s blk len) : w.rangeAt g 8 ((List.range 64).map fun j => Value.int .u8 (blk j : Nat)):=by
 intro j v hv
 have hj : j < 64:=by simpa using (List.getElem?_eq_some_iff.1 hv).1
 rw [h.byte hj,← hv]
 simp [hj]
theorem HRow.words (h : HRow w g s blk len) : w.rangeAt g 0 ((List.range 8).map fun j => Value.int .u32 (s.at j : Nat)):=by
 intro j v hv
 have hj : j < 8:=by simpa using (List.getElem?_eq_some_iff.1 hv).1
 rw [Nat.zero_add,h.state hj,← hv]
 simp [hj]
end
structure KT (w : World) : Prop where
 lt : 0 < w.heap.size
 cell : ∀ j,j < 64 → w.cell? ⟨0,j,none⟩ = some (.int .u32 (kc j : Nat))
section
variable {w w' : World} {B : Nat}
theorem KT.of_block (h : KT w) (e : w'.heap[0]? = w.heap[0]?) (hs : w.heap.size ≤ w'.heap.size) : KT w' :=
 ⟨Nat.lt_of_lt_of_le h.lt hs,fun j hj => (World.cell?_of_block (w:=w) (a:=⟨0,j,none⟩) e).trans (h.cell j hj)⟩
theorem KT.below (h : KT w) (hb : Below B w w') (hB : 0 < B) : KT w':=h.of_block (hb.block 0 hB) hb.size
theorem KT.call (h : KT w) (hb : Below w.heap.size w w') : KT w':=h.below hb h.lt
theorem KT.alloc (h : KT w) (o : Obj) : KT (w.alloc o):=h.of_block (Below.heap_alloc _ _ _ h.lt) (by simp)
theorem KT.drew (h : KT w) : KT w.drew:=⟨h.lt,h.cell⟩
theorem KT.drewN (h : KT w) (k : Nat) : KT (w.drewN k):=⟨h.lt,h.cell⟩
theorem KT.grown {r : Nat} (h : KT w) (hg : w.grownBy w' (some r)) (hne : 0 ≠ r) : KT w':=h.of_block (hg.block 0 h.lt (by simpa using hne)) hg.size
end
theorem veil32 {p : Prop} (h : p) : Hid p:=h
theorem neg_and : ∀ n : Fin 32,n.1 ≠ 0 → bits .and .u64 (IntKind.u64.wrap (-(n.1 : Int))) 31 = 32 - (n.1 : Int):=by decide
theorem rot_bits {x n : Nat} (hx : x < 2 ^ 32) (hn : n < 32) : bits .or .u32 ((x : Int) * 2 ^ (32 - n) % 4294967296) ((x : Int) / 2 ^ (32 - (32 - n))) = ((rot x n : Nat) : Int):=by
 have e : 32 - (32 - n) = n:=by omega
 have e1 : (x : Int) * 2 ^ (32 - n) % 4294967296 = ((x * 2 ^ (32 - n) % 2 ^ 32 : Nat) : Int):=by
  rw [Int.natCast_emod,Int.natCast_mul,Int.natCast_pow]; rfl
 have e2 : (x : Int) / 2 ^ n = ((x / 2 ^ n : Nat) : Int):=by
  rw [Int.natCast_ediv,Int.natCast_pow]; rfl
 rw [e,e1,e2,or32 _ _ (Nat.mod_lt _ (by decide)) (shr_lt n hx),rot_or (by omega) hx,Nat.or_comm]
theorem ret_u32 {a : Int} {b : Nat} (h : a = (b : Int)) : Ending.returned (.int .u32 a) = .returned (.int .u32 (b : Nat)):=by rw [h]
theorem rotl_calls (x n : Nat) (hx : x < 2 ^ 32) (h0 : n ≠ 0) (hn : n < 32) (w : World) :
  Calls Tryz.prog 168 #[.int .u32 (x : Int),.int .i64 (-(n : Int))] w fun e w' => e = .returned (.int .u32 (rot x n : Nat)) ∧ w' = w:=by
 have k1:=neg_and ⟨n,hn⟩ h0
 simp only at k1
 go_enter Tryz.func168,Tryz.ntmps168
 go_wp2
 go_ret
 exact ⟨ret_u32 (rot_bits hx hn),rfl⟩
theorem zby (x n : Nat) (hx : x < 2 ^ 32) (h0 : n ≠ 0) (hn : n < 32) (w : World) :
  Calls Tryz.prog 163 #[.int .u32 (x : Int),.int .i64 (n : Int)] w fun e w' => e = .returned (.int .u32 (rot x n : Nat)) ∧ w' = w:=by
 go_enter Tryz.func163,Tryz.ntmps163
 go_wp2_with (go_at_call 168; refine (rotl_calls x n hx h0 hn _).mono ?_; rintro e w' ⟨rfl,rfl⟩)
 go_ret
 exact ⟨rfl,rfl⟩
theorem bigOne_calls (x : Nat) (hx : x < 2 ^ 32) (w : World) :
  Calls Tryz.prog 148 #[.int .u32 (x : Int)] w fun e w' => e = .returned (.int .u32 (bs1 x : Nat)) ∧ w' = w:=by
 have k1:=xor32 (rot x 6) (rot x 11) (zdd (by omega) hx) (zdd (by omega) hx)
 have k2:=xor32 (rot x 6 ^^^ rot x 11) (rot x 25) (Nat.xor_lt_two_pow (n:=32) (zdd (by omega) hx) (zdd (by omega) hx)) (zdd (by omega) hx)
 have H1 : Hid (∀ W,Calls Tryz.prog 163 #[.int .u32 (x : Int),.int .i64 6] W fun e w' => e = .returned (.int .u32 (rot x 6 : Nat)) ∧ w' = W):=veil32 (fun W => zby x 6 hx (by decide) (by decide) W)
 have H2 : Hid (∀ W,Calls Tryz.prog 163 #[.int .u32 (x : Int),.int .i64 11] W fun e w' => e = .returned (.int .u32 (rot x 11 : Nat)) ∧ w' = W):=veil32 (fun W => zby x 11 hx (by decide) (by decide) W)
 have H3 : Hid (∀ W,Calls Tryz.prog 163 #[.int .u32 (x : Int),.int .i64 25] W fun e w' => e = .returned (.int .u32 (rot x 25 : Nat)) ∧ w' = W):=veil32 (fun W => zby x 25 hx (by decide) (by decide) W)
 go_enter Tryz.func148,Tryz.ntmps148
 go_wp2_with (go_at_call 163; (first | ((with_reducible refine (H1.out _).mono ?_); rintro e w' ⟨rfl,rfl⟩) | ((with_reducible refine (H2.out _).mono ?_); rintro e w' ⟨rfl,rfl⟩) | ((with_reducible refine (H3.out _).mono ?_); rintro e w' ⟨rfl,rfl⟩)))
 go_ret
 exact ⟨rfl,rfl⟩
theorem bigZero_calls (x : Nat) (hx : x < 2 ^ 32) (w : World) :
  Calls Tryz.prog 150 #[.int .u32 (x : Int)] w fun e w' => e = .returned (.int .u32 (bs0 x : Nat)) ∧ w' = w:=by
 have k1:=xor32 (rot x 2) (rot x 13) (zdd (by omega) hx) (zdd (by omega) hx)
 have k2:=xor32 (rot x 2 ^^^ rot x 13) (rot x 22) (Nat.xor_lt_two_pow (n:=32) (zdd (by omega) hx) (zdd (by omega) hx)) (zdd (by omega) hx)
 have H1 : Hid (∀ W,Calls Tryz.prog 163 #[.int .u32 (x : Int),.int .i64 2] W fun e w' => e = .returned (.int .u32 (rot x 2 : Nat)) ∧ w' = W):=veil32 (fun W => zby x 2 hx (by decide) (by decide) W)
 have H2 : Hid (∀ W,Calls Tryz.prog 163 #[.int .u32 (x : Int),.int .i64 13] W fun e w' => e = .returned (.int .u32 (rot x 13 : Nat)) ∧ w' = W):=veil32 (fun W => zby x 13 hx (by decide) (by decide) W)
 have H3 : Hid (∀ W,Calls Tryz.prog 163 #[.int .u32 (x : Int),.int .i64 22] W fun e w' => e = .returned (.int .u32 (rot x 22 : Nat)) ∧ w' = W):=veil32 (fun W => zby x 22 hx (by decide) (by decide) W)
 go_enter Tryz.func150,Tryz.ntmps150
 go_wp2_with (go_at_call 163; (first | ((with_reducible refine (H1.out _).mono ?_); rintro e w' ⟨rfl,rfl⟩) | ((with_reducible refine (H2.out _).mono ?_); rintro e w' ⟨rfl,rfl⟩) | ((with_reducible refine (H3.out _).mono ?_); rintro e w' ⟨rfl,rfl⟩)))
 go_ret
 exact ⟨rfl,rfl⟩
theorem smallOne_calls (x : Nat) (hx : x < 2 ^ 32) (w : World) :
  Calls Tryz.prog 161 #[.int .u32 (x : Int)] w fun e w' => e = .returned (.int .u32 (sg1 x : Nat)) ∧ w' = w:=by
 obtain ⟨q,hq⟩ : ∃ q,q = x / 2 ^ 10:=⟨_,rfl⟩
 have hql : q < 2 ^ 32:=by rw [hq]; exact shr_lt 10 hx
 have k3 : (x : Int) / 1024 = (q : Int):=by rw [hq,Int.natCast_ediv]; rfl
 have HQ:=veil32 hq
 clear hq
 have k1:=xor32 (rot x 17) (rot x 19) (zdd (by omega) hx) (zdd (by omega) hx)
 have k2:=xor32 (rot x 17 ^^^ rot x 19) (q) (Nat.xor_lt_two_pow (n:=32) (zdd (by omega) hx) (zdd (by omega) hx)) (hql)
 have H1 : Hid (∀ W,Calls Tryz.prog 163 #[.int .u32 (x : Int),.int .i64 17] W fun e w' => e = .returned (.int .u32 (rot x 17 : Nat)) ∧ w' = W):=veil32 (fun W => zby x 17 hx (by decide) (by decide) W)
 have H2 : Hid (∀ W,Calls Tryz.prog 163 #[.int .u32 (x : Int),.int .i64 19] W fun e w' => e = .returned (.int .u32 (rot x 19 : Nat)) ∧ w' = W):=veil32 (fun W => zby x 19 hx (by decide) (by decide) W)
 go_enter Tryz.func161,Tryz.ntmps161
 go_wp2_with (go_at_call 163; (first | ((with_reducible refine (H1.out _).mono ?_); rintro e w' ⟨rfl,rfl⟩) | ((with_reducible refine (H2.out _).mono ?_); rintro e w' ⟨rfl,rfl⟩)))
 go_ret
 exact ⟨by unfold sg1; rw [← HQ.out]; rfl,rfl⟩
theorem smallZero_calls (x : Nat) (hx : x < 2 ^ 32) (w : World) :
  Calls Tryz.prog 162 #[.int .u32 (x : Int)] w fun e w' => e = .returned (.int .u32 (sg0 x : Nat)) ∧ w' = w:=by
 obtain ⟨q,hq⟩ : ∃ q,q = x / 2 ^ 3:=⟨_,rfl⟩
 have hql : q < 2 ^ 32:=by rw [hq]; exact shr_lt 3 hx
 have k3 : (x : Int) / 8 = (q : Int):=by rw [hq,Int.natCast_ediv]; rfl
 have HQ:=veil32 hq
 clear hq
 have k1:=xor32 (rot x 7) (rot x 18) (zdd (by omega) hx) (zdd (by omega) hx)
 have k2:=xor32 (rot x 7 ^^^ rot x 18) (q) (Nat.xor_lt_two_pow (n:=32) (zdd (by omega) hx) (zdd (by omega) hx)) (hql)
 have H1 : Hid (∀ W,Calls Tryz.prog 163 #[.int .u32 (x : Int),.int .i64 7] W fun e w' => e = .returned (.int .u32 (rot x 7 : Nat)) ∧ w' = W):=veil32 (fun W => zby x 7 hx (by decide) (by decide) W)
 have H2 : Hid (∀ W,Calls Tryz.prog 163 #[.int .u32 (x : Int),.int .i64 18] W fun e w' => e = .returned (.int .u32 (rot x 18 : Nat)) ∧ w' = W):=veil32 (fun W => zby x 18 hx (by decide) (by decide) W)
 go_enter Tryz.func162,Tryz.ntmps162
 go_wp2_with (go_at_call 163; (first | ((with_reducible refine (H1.out _).mono ?_); rintro e w' ⟨rfl,rfl⟩) | ((with_reducible refine (H2.out _).mono ?_); rintro e w' ⟨rfl,rfl⟩)))
 go_ret
 exact ⟨by unfold sg0; rw [← HQ.out]; rfl,rfl⟩
theorem xor_all {x : Nat} (hx : x < 2 ^ 32) : bits .xor .u32 IntKind.u32.max (x : Int) = ((4294967295 - x : Nat) : Int):=by
 have h:=xor32 4294967295 x (by decide) hx
 have e : 4294967295 ^^^ x = 4294967295 - x:=by
  apply Nat.eq_of_testBit_eq
  intro i
  rw [Nat.testBit_xor,not_bit hx,show (4294967295 : Nat) = 2 ^ 32 - 1 from rfl,Nat.testBit_two_pow_sub_one]
  by_cases h : i < 32
  ·
   simp [h]
  ·
   have h32 : 2 ^ 32 ≤ 2 ^ i:=Nat.pow_le_pow_right (by omega) (by omega)
   rw [Nat.testBit_lt_two_pow (Nat.lt_of_lt_of_le hx h32)]
   simp [h]
 rw [e] at h
 exact h
theorem choice_calls (x y z : Nat) (hx : x < 2 ^ 32) (hy : y < 2 ^ 32) (hz : z < 2 ^ 32) (w : World) :
  Calls Tryz.prog 149 #[.int .u32 (x : Int),.int .u32 (y : Int),.int .u32 (z : Int)] w fun e w' => e = .returned (.int .u32 (chN x y z : Nat)) ∧ w' = w:=by
 have k1:=and32 x y hx hy
 have k2:=xor_all hx
 have k3:=and32 (4294967295 - x) z (by omega) hz
 have k4:=xor32 (x &&& y) ((4294967295 - x) &&& z) (Nat.lt_of_le_of_lt Nat.and_le_left hx) (Nat.lt_of_le_of_lt Nat.and_le_left (by omega))
 go_enter Tryz.func149,Tryz.ntmps149
 go_wp2
 go_ret
 exact ⟨rfl,rfl⟩
theorem majority_calls (x y z : Nat) (hx : x < 2 ^ 32) (hy : y < 2 ^ 32) (hz : z < 2 ^ 32) (w : World) :
  Calls Tryz.prog 151 #[.int .u32 (x : Int),.int .u32 (y : Int),.int .u32 (z : Int)] w fun e w' => e = .returned (.int .u32 (majN x y z : Nat)) ∧ w' = w:=by
 have k1:=and32 x y hx hy
 have k2:=and32 x z hx hz
 have k3:=and32 y z hy hz
 have l1 : x &&& y < 2 ^ 32:=Nat.lt_of_le_of_lt Nat.and_le_left hx
 have l2 : x &&& z < 2 ^ 32:=Nat.lt_of_le_of_lt Nat.and_le_left hx
 have l3 : y &&& z < 2 ^ 32:=Nat.lt_of_le_of_lt Nat.and_le_left hy
 have k4:=xor32 (x &&& y) (x &&& z) l1 l2
 have k5:=xor32 ((x &&& y) ^^^ (x &&& z)) (y &&& z) (Nat.xor_lt_two_pow (n:=32) l1 l2) l3
 clear l1 l2 l3 hx hy hz
 go_enter Tryz.func151,Tryz.ntmps151
 go_wp2
 go_ret
 exact ⟨rfl,rfl⟩
end Go.Proofs.YtedehdbajiaaiaaGreatDoor
