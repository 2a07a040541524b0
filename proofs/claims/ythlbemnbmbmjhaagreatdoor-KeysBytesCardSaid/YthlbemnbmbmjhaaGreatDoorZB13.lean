/-
  Of Aut AutB AutC E2.
-/
import Derived.Scope
import Derived.Lib.AppendZeros
import Derived.Test.YthlbemnbmbmjhaaGreatDoorZB2
import Derived.Test.YthlbemnbmbmjhaaGreatDoorZB6
set_option maxRecDepth 1000000
set_option maxHeartbeats 20000000
namespace Go.Proofs.YthlbemnbmbmjhaaGreatDoor
open Go.RowKit
open Go.Value renaming int → vI
open Go.IntKind renaming u64 → vU
open Go.Act renaming put → aP
open List renaming setIfInBounds_toArray → lA, set_cons_zero → lZ, set_cons_succ → lS
inductive SV where
 | v (x : Value)
 | p (i o : Nat)
def SV.den (e : Nat → Nat) : SV → Value
 | .v x => x
 | .p i o => .pointer (some ⟨e i,o,none⟩)
def SV.below (k : Nat) : SV → Bool
 | .v _ => true
 | .p i _ => Nat.blt i k
theorem den_env {e e' : Nat → Nat} {k : Nat} (h : ∀ i,i < k → e' i = e i) : ∀ {s : SV},s.below k = true → s.den e' = s.den e
 | .v _,_ => rfl
 | .p i o,hs => by
  have : i < k:=by simpa [SV.below] using hs
  show Value.pointer (some ⟨e' i,o,none⟩) = _
  rw [h i this]
  rfl
structure Blk where
 ty : TypeId
 cs : List SV
def Blk.obj (e : Nat → Nat) (b : Blk) : Obj:=.cells (b.cs.map (SV.den e)).toArray b.ty (0,0)
inductive Orc (P : Program) (w0 : World) where
 | call (f : FuncId) (args : Array Value) (v : Value) (ok : ∀ W,Ext w0 W → Calls P f args W fun e W' => e = .returned v ∧ Ext W W')
 | bin (op : BinOp) (ty : TypeId) (x y r : Value) (g : ∀ X Y W,(eqGuard op ty X Y x y).run P W = .ok () W) (ok : ∀ W,(binOp op ty x y).run P W = .ok r W)
abbrev Fun2:=(Nat → Nat) → World → Result Next
structure Sst (P : Program) (w0 : World) where
 n : Nat
 t : List (Nat × SV)
 m : List Blk
 x : Nat
 q : List (Orc P w0)
 g : List (Fun2 × Fun2)
def lookS : List (Nat × SV) → Nat → SV
 | [],_ => .v undef
 | (j,s) :: r,i => bif Nat.beq i j then s else lookS r i
def valOf : Result Next → Value
 | .ok (.value v) _ => v
 | _ => undef
def offOf : Result Next → Nat
 | .ok (.value (.pointer (some a))) _ => a.off
 | _ => 0
section
variable {P : Program} {w0 : World}
def evX (s : Sst P w0) : Operand → SV
 | .tmp i => lookS s.t i
 | .const v => .v v
 | .global g => .v (.pointer (some ⟨g,0,none⟩))
 | .func f => .v (.func (.func f) #[] #[])
def evR (s : Sst P w0) (o : Oper) : Fun2:=fun e W => (execOp (fun x => (evX s x).den e) o).run P W
def Sst.put (s : Sst P w0) (d : Option Tmp) (x : SV) : Option (Sst P w0) :=
 match d with
 | none => some s
 | some i => bif Nat.blt i s.n then some { s with t:=(i,x) :: s.t } else none
def Sst.log (s : Sst P w0) (l r : Fun2) : Sst P w0:={ s with g:=(l,r) :: s.g }
def evWant (s : Sst P w0) (ops : List Oper) (o : Oper) : Option Bool :=
 match o.guard with
 | none => some true
 | some (k,b) =>
  match ops[k]? with
  | none => none
  | some o' => match o'.dst with
   | none => none
   | some d => match lookS s.t d with
    | .v (.bool c) => some (c == b)
    | _ => none
def evPure (s : Sst P w0) (o : Oper) : Option (Sst P w0) :=
 (s.log (evR s o) (fun _ W => .ok (.value (valOf (evR s o (fun _ => 0) w0))) W)).put o.dst (.v (valOf (evR s o (fun _ => 0) w0)))
def evPtr (s : Sst P w0) (o : Oper) (i : Nat) : Option (Sst P w0) :=
 (s.log (evR s o) (fun e W => .ok (.value ((SV.p i (offOf (evR s o (fun _ => 0) w0))).den e)) W)).put o.dst (.p i (offOf (evR s o (fun _ => 0) w0)))
def toVals : List SV → Option (List Value)
 | [] => some []
 | .v x :: r => (toVals r).map (x :: ·)
 | .p _ _ :: _ => none
def isRowT : TypeDesc → Bool
 | .struct _ | .array _ _ => true
 | _ => false
def evLoad (s : Sst P w0) (o : Oper) (ty : TypeId) (i off : Nat) : Option (Sst P w0) :=
 match s.m[i]?,P.underlying ty with
 | some b,some d =>
  bif isRowT d then
   match P.info? ty with
   | some inf => match toVals ((b.cs.drop off).take inf.size) with
    | some vs => bif Nat.beq vs.length inf.size then s.put o.dst (.v (.agg vs.toArray)) else none
    | none => none
   | none => none
  else match b.cs[off]? with
   | some c => s.put o.dst c
   | none => none
 | _,_ => none
def evCall (s : Sst P w0) (o : Oper) : Option (Sst P w0) :=
 match s.q with
 | .call f args v _ :: q => ({ s with q:=q }.log (evR s o) (fun _ W => .ok (.enter f args) W)).put o.dst (.v v)
 | _ => none
def evBin (s : Sst P w0) (o : Oper) (X Y : Operand) : Option (Sst P w0) :=
 match s.q with
 | .bin op ty x y r _ _ :: q => ({ s with q:=q }.log (evR s o) (fun _ W => (do eqGuard op ty X Y x y; pure (Next.value (← binOp op ty x y)) : Sem Next).run P W)).put o.dst (.v r)
 | _ => none
def evVal (s : Sst P w0) (o : Oper) : Option (Sst P w0) :=
 match o.op with
 | .move x => s.put o.dst (evX s x)
 | .assign x => s.put o.dst (evX s x)
 | .pick c a b => match evX s c with
  | .v (.bool true) => s.put o.dst (evX s a)
  | .v (.bool false) => s.put o.dst (evX s b)
  | _ => none
 | .load ty x => match evX s x with
  | .p i off => evLoad s o ty i off
  | .v _ => none
 | .fieldAddr _ x _ => match evX s x with
  | .p i _ => evPtr s o i
  | .v _ => evPure s o
 | .indexAddr _ x _ => match evX s x with
  | .p i _ => evPtr s o i
  | .v _ => evPure s o
 | .call c => match c.callee with
  | .builtin _ => evPure s o
  | _ => evCall s o
 | .binOp _ _ X Y _ => match evX s X with
  | .v (.agg _) => evBin s o X Y
  | _ => evPure s o
 | _ => evPure s o
def evVals (ops : List Oper) : List Oper → Sst P w0 → Option (Sst P w0)
 | [],s => some s
 | o :: l,s => match evWant s ops o with
  | some true => match evVal s o with
   | some s1 => evVals ops l s1
   | none => none
  | some false => match s.put o.dst (.v undef) with
   | some s1 => evVals ops l s1
   | none => none
  | none => none
/-! ### what it says -/
def LogOk (g : List (Fun2 × Fun2)) : Prop:=∀ p ∈ g,p.1 = p.2
structure Rel (s : Sst P w0) (a : Act) (e : Nat → Nat) (w : World) : Prop where
 size : a.tmps.size = s.n
 defers : a.defers = []
 slot : ∀ i,a.tmps.getD i undef = (lookS s.t i).den e
 blk : ∀ (i : Nat) b,s.m[i]? = some b → w.heap[e i]? = some (b.obj e)
 own : ∀ i,s.x ≤ i → i < s.m.length → w0.heap.size ≤ e i
 far : ∀ i j,s.x ≤ i → i < s.m.length → j < s.m.length → i ≠ j → e i ≠ e j
 ext : Ext w0 w
theorem Rel.eval {s : Sst P w0} {a : Act} {e : Nat → Nat} {w : World} (h : Rel s a e w) : a.eval = fun x => (evX s x).den e:=by
 funext x
 cases x with
 | tmp i => exact h.slot i
 | const v => rfl
 | global g => rfl
 | func f => rfl
theorem Rel.exec {s : Sst P w0} {a : Act} {e : Nat → Nat} {w : World} (h : Rel s a e w) (o : Oper) (W : World) : (execOp a.eval o).run P W = evR s o e W:=by
 unfold evR
 rw [h.eval]
theorem Rel.more {s : Sst P w0} {a : Act} {e : Nat → Nat} {w w' : World} (h : Rel s a e w) (k : Ext w w') : Rel s a e w' :=
 ⟨h.size,h.defers,h.slot,fun i b hb => k.block (h.blk i b hb),h.own,h.far,h.ext.trans k⟩
theorem Rel.q {s : Sst P w0} {a : Act} {e : Nat → Nat} {w : World} (h : Rel s a e w) (q : List (Orc P w0)) (g : List (Fun2 × Fun2)) : Rel { s with q:=q,g:=g } a e w :=
 ⟨h.size,h.defers,h.slot,h.blk,h.own,h.far,h.ext⟩
theorem zgr {l : List (Nat × SV)} {j i : Nat} {x : SV} : lookS ((j,x) :: l) i = if i = j then x else lookS l i:=by
 show (bif Nat.beq i j then x else lookS l i) = _
 by_cases h : i = j
 ·
  subst h; simp
 ·
  have : Nat.beq i j = false:=by
   cases hb : Nat.beq i j with
   | false => rfl
   | true => exact absurd (Nat.eq_of_beq_eq_true hb) h
  rw [this,if_neg h]
  rfl
theorem Rel.put {s s' : Sst P w0} {a : Act} {e : Nat → Nat} {w : World} (h : Rel s a e w) {d : Option Tmp} {x : SV} {v : Value} (hp : s.put d x = some s') (hv : x.den e = v) : Rel s' (a.put d v) e w:=by
 subst hv
 cases d with
 | none =>
  obtain rfl : s = s':=by simpa [Sst.put] using hp
  exact h
 | some i =>
  unfold Sst.put at hp
  simp only at hp
  cases hb : Nat.blt i s.n with
  | false => rw [hb] at hp; cases hp
  | true =>
   rw [hb] at hp
   obtain rfl : { s with t:=(i,x) :: s.t } = s':=by simpa using hp
   have hi : i < a.tmps.size:=by rw [h.size]; simpa using hb
   refine ⟨?_,h.defers,fun j => ?_,h.blk,h.own,h.far,h.ext⟩
   ·
    show (a.tmps.setIfInBounds i _).size = _
    simpa using h.size
   ·
    show (a.tmps.setIfInBounds i _).getD j undef = (lookS ((i,x) :: s.t) j).den e
    rw [zgr]
    by_cases hj : j = i
    ·
     subst hj
     rw [if_pos rfl]
     simp [hi]
    ·
     rw [if_neg hj,← h.slot j]
     simp [Ne.symm hj]
theorem put_g {s s' : Sst P w0} {d : Option Tmp} {x : SV} (hp : s.put d x = some s') : s'.g = s.g ∧ s'.m = s.m ∧ s'.x = s.x ∧ s'.q = s.q ∧ s'.n = s.n:=by
 cases d with
 | none =>
  obtain rfl : s = s':=by simpa [Sst.put] using hp
  exact ⟨rfl,rfl,rfl,rfl,rfl⟩
 | some i =>
  unfold Sst.put at hp
  simp only at hp
  cases hb : Nat.blt i s.n with
  | false => rw [hb] at hp; cases hp
  | true =>
   rw [hb] at hp
   obtain rfl : { s with t:=(i,x) :: s.t } = s':=by simpa using hp
   exact ⟨rfl,rfl,rfl,rfl,rfl⟩
def Grows (s s' : Sst P w0) : Prop:=∃ l,s'.g = l ++ s.g
theorem Grows.refl (s : Sst P w0) : Grows s s:=⟨[],rfl⟩
theorem Grows.trans {a b c : Sst P w0} (h : Grows a b) (k : Grows b c) : Grows a c:=by
 obtain ⟨l,h⟩:=h
 obtain ⟨r,k⟩:=k
 exact ⟨r ++ l,by rw [k,h,List.append_assoc]⟩
theorem Grows.ok {s s' : Sst P w0} (h : Grows s s') (k : LogOk s'.g) : LogOk s.g:=by
 obtain ⟨l,h⟩:=h
 intro p hp
 exact k p (by rw [h]; exact List.mem_append_right _ hp)
theorem zct {s s' : Sst P w0} {d : Option Tmp} {x : SV} (hp : s.put d x = some s') : Grows s s':=⟨[],by rw [(put_g hp).1]; rfl⟩
theorem zgi {e : Nat → Nat} : ∀ {l : List SV} {vs : List Value},toVals l = some vs → l.map (SV.den e) = vs
 | [],vs,h => by
  obtain rfl : [] = vs:=by simpa [toVals] using h
  rfl
 | .v x :: r,vs,h => by
  unfold toVals at h
  cases hr : toVals r with
  | none => rw [hr] at h; cases h
  | some ws =>
   rw [hr] at h
   obtain rfl : x :: ws = vs:=by simpa using h
   rw [List.map_cons,zgi hr]
   rfl
 | .p _ _ :: _,_,h => by cases h
theorem agg_no {P : Program} {ty : TypeId} {d : TypeDesc} (hu : P.underlying ty = some d) (h : isRowT d = false) (W : World) : (isAgg ty).run P W = .ok false W:=by
 unfold isAgg
 rw [Sem.run_bind,run_underlying hu W]
 cases d <;> simp_all [isRowT]
theorem zfq {s s' : Sst P w0} {o : Oper} (hs : evVal s o = some s') : Grows s s' ∧ (LogOk s'.g → ∀ {a e w},Rel s a e w → ∃ v,Made P o v a w ∧ Rel s' (a.put o.dst v) e w):=by
 have pure_ : ∀ {s' : Sst P w0},evPure s o = some s' → Grows s s' ∧ (LogOk s'.g → ∀ {a e w},Rel s a e w → ∃ v,Made P o v a w ∧ Rel s' (a.put o.dst v) e w):=by
  intro s' hs
  unfold evPure at hs
  have hg:=put_g hs
  refine ⟨⟨[_],hg.1⟩,fun hl a e w hR => ⟨_,zaw fun W _ => ?_,(hR.q s.q _).put hs rfl⟩⟩
  have:=hl _ (by rw [hg.1]; exact List.mem_cons_self)
  rw [hR.exec]
  exact congrFun (congrFun this e) W
 have ptr_ : ∀ {s' : Sst P w0} {i : Nat},evPtr s o i = some s' → Grows s s' ∧ (LogOk s'.g → ∀ {a e w},Rel s a e w → ∃ v,Made P o v a w ∧ Rel s' (a.put o.dst v) e w):=by
  intro s' i hs
  unfold evPtr at hs
  have hg:=put_g hs
  refine ⟨⟨[_],hg.1⟩,fun hl a e w hR => ⟨_,zaw fun W _ => ?_,(hR.q s.q _).put hs rfl⟩⟩
  have:=hl _ (by rw [hg.1]; exact List.mem_cons_self)
  rw [hR.exec]
  exact congrFun (congrFun this e) W
 have slot_ : ∀ {s' : Sst P w0} {x : Operand},s.put o.dst (evX s x) = some s' → (∀ (ρ : Operand → Value) W,(execOp ρ o).run P W = .ok (.value (ρ x)) W) → Grows s s' ∧ (LogOk s'.g → ∀ {a e w},Rel s a e w → ∃ v,Made P o v a w ∧ Rel s' (a.put o.dst v) e w):=by
  intro s' x hs hx
  refine ⟨zct hs,fun _ a e w hR => ⟨_,zaw fun W _ => hx _ W,hR.put hs ?_⟩⟩
  rw [hR.eval]
 unfold evVal at hs
 split at hs
 ·
  rename_i x ho
  exact slot_ hs fun ρ W => by unfold execOp; simp only [ho,Sem.run_pure]
 ·
  rename_i x ho
  exact slot_ hs fun ρ W => by unfold execOp; simp only [ho,Sem.run_pure]
 ·
  rename_i c x y ho
  split at hs
  ·
   rename_i hc
   refine ⟨zct hs,fun _ a e w hR => ⟨a.eval x,zaw fun W _ => ?_,hR.put hs (by rw [hR.eval])⟩⟩
   have hc' : a.eval c = .bool true:=by rw [hR.eval]; show (evX s c).den e = _; rw [hc]; rfl
   unfold execOp
   simp [ho,hc',asBool]
  ·
   rename_i hc
   refine ⟨zct hs,fun _ a e w hR => ⟨a.eval y,zaw fun W _ => ?_,hR.put hs (by rw [hR.eval])⟩⟩
   have hc' : a.eval c = .bool false:=by rw [hR.eval]; show (evX s c).den e = _; rw [hc]; rfl
   unfold execOp
   simp [ho,hc',asBool]
  ·
   cases hs
 ·
  rename_i ty x ho
  split at hs
  ·
   rename_i i off hx
   unfold evLoad at hs
   split at hs
   ·
    rename_i b d hb hu
    cases hd : isRowT d with
    | true =>
     rw [hd] at hs
     simp only [cond_true] at hs
     split at hs
     ·
      rename_i inf hi
      split at hs
      ·
       rename_i vs hvs
       cases hl : Nat.beq vs.length inf.size with
       | false => rw [hl] at hs; cases hs
       | true =>
        rw [hl] at hs
        have hlen:=Nat.eq_of_beq_eq_true hl
        refine ⟨zct hs,fun _ a e w hR => ⟨.agg vs.toArray,?_,hR.put hs rfl⟩⟩
        refine zam (g:=e i) (off:=off) (C:=(b.cs.map (SV.den e)).toArray) (t:=b.ty) (fr:=(0,0)) ho (by rw [hR.eval]; show (evX s x).den e = _; rw [hx]; rfl) (hR.blk i b hb) ?_ hu ?_ (by rw [hi]; simp [hlen])
        ·
         rw [hlen]
         have:=zgi (e:=e) hvs
         rw [← this,List.map_take,List.map_drop]
        ·
         cases d <;> simp_all [isRowT]
      ·
       cases hs
     ·
      cases hs
    | false =>
     rw [hd] at hs
     simp only [cond_false] at hs
     split at hs
     ·
      rename_i c hc
      refine ⟨zct hs,fun _ a e w hR => ⟨c.den e,?_,hR.put hs rfl⟩⟩
      refine zax (g:=e i) (off:=off) (C:=(b.cs.map (SV.den e)).toArray) (t:=b.ty) (fr:=(0,0)) ho (by rw [hR.eval]; show (evX s x).den e = _; rw [hx]; rfl) (hR.blk i b hb) (by simp [hc]) (fun W => agg_no hu hd W)
     ·
      cases hs
   ·
    cases hs
  ·
   cases hs
 ·
  rename_i ty x f ho
  split at hs
  ·
   exact ptr_ hs
  ·
   exact pure_ hs
 ·
  rename_i ty x f ho
  split at hs
  ·
   exact ptr_ hs
  ·
   exact pure_ hs
 ·
  rename_i c ho
  split at hs
  ·
   exact pure_ hs
  ·
   unfold evCall at hs
   split at hs
   ·
    rename_i f args v ok q hq
    have hg:=put_g hs
    refine ⟨⟨[_],hg.1⟩,fun hl a e w hR => ⟨v,made_call (f:=f) (args:=args) (fun W => ?_) (fun W hW => ok W (hR.ext.trans hW)),(hR.q q _).put hs rfl⟩⟩
    have:=hl _ (by rw [hg.1]; exact List.mem_cons_self)
    rw [hR.exec]
    exact congrFun (congrFun this e) W
   ·
    cases hs
 ·
  rename_i op ty X Y z ho
  split at hs
  ·
   unfold evBin at hs
   split at hs
   ·
    rename_i op' ty' x y r hgd ok q hq
    have hg:=put_g hs
    refine ⟨⟨[_],hg.1⟩,fun hl a e w hR => ⟨r,zaw fun W _ => ?_,(hR.q q _).put hs rfl⟩⟩
    have:=hl _ (by rw [hg.1]; exact List.mem_cons_self)
    rw [hR.exec]
    refine (congrFun (congrFun this e) W).trans ?_
    simp only [Sem.run_bind,hgd X Y W,Result.andThen_ok,ok W,Sem.run_pure]
   ·
    cases hs
  ·
   exact pure_ hs
 ·
  exact pure_ hs
end
section
variable {P : Program} {w0 : World} {Q : Exit → Act → World → Prop}
theorem val_grow {s s' : Sst P w0} {o : Oper} (h : evVal s o = some s') : Grows s s':=(zfq h).1
theorem zcp {s : Sst P w0} {ops : List Oper} {o : Oper} {b : Bool} {a : Act} {e : Nat → Nat} {w : World} (h : evWant s ops o = some b) (hR : Rel s a e w) : Region.wanted o (yielded ops.toArray a.tmps) = b:=by
 unfold evWant at h
 unfold Region.wanted
 cases hg : o.guard with
 | none =>
  rw [hg] at h
  simpa using h
 | some kb =>
  obtain ⟨k,b'⟩:=kb
  rw [hg] at h
  simp only at h ⊢
  split at h
  ·
   cases h
  ·
   rename_i o' ho
   split at h
   ·
    cases h
   ·
    rename_i d hd
    split at h
    ·
     rename_i c hc
     have hs:=hR.slot d
     rw [hc] at hs
     have ht : a.tmps[d]? = some (.bool c):=by
      simp only [SV.den,Array.getD_eq_getD_getElem?] at hs
      cases hx : a.tmps[d]? with
      | none => rw [hx] at hs; simp [undef] at hs
      | some y => rw [hx] at hs; simpa using hs
     have hy : yielded ops.toArray a.tmps k = some c:=by
      unfold yielded
      simp [ho,hd,ht]
     rw [hy]
     have h : (c == b') = b:=by simpa using h
     rw [← h]
     cases c <;> cases b' <;> rfl
    ·
     cases h
theorem zfp {ops : List Oper} : ∀ {l : List Oper} {s s' : Sst P w0},evVals ops l s = some s' → Grows s s'
 | [],s,s',h => by
  obtain rfl : s = s':=by simpa [evVals] using h
  exact Grows.refl _
 | o :: l,s,s',h => by
  unfold evVals at h
  split at h
  ·
   split at h
   ·
    rename_i hv
    exact (val_grow hv).trans (zfp h)
   ·
    cases h
  ·
   split at h
   ·
    rename_i hv
    exact (zct hv).trans (zfp h)
   ·
    cases h
  ·
   cases h
theorem vals_mk {ops : List Oper} {R : Act → Prop} {e : Nat → Nat} {w : World} : ∀ {l : List Oper} {s s' : Sst P w0} {a : Act},evVals ops l s = some s' → LogOk s'.g → Rel s a e w → (∀ a',Rel s' a' e w → R a') → wpMk P ops.toArray w R l a
 | [],s,s',a,h,_,hR,hK => by
  obtain rfl : s = s':=by simpa [evVals] using h
  exact hK a hR
 | o :: l,s,s',a,h,hl,hR,hK => by
  unfold evVals at h
  split at h
  ·
   rename_i hw
   split at h
   ·
    rename_i s1 hv
    obtain ⟨v,hm,hR1⟩:=(zfq hv).2 ((zfp h).ok hl) hR
    exact ⟨v,.inl ⟨zcp hw hR,hm⟩,vals_mk h hl hR1 hK⟩
   ·
    cases h
  ·
   rename_i hw
   split at h
   ·
    rename_i s1 hv
    exact ⟨undef,.inr ⟨zcp hw hR,rfl⟩,vals_mk h hl (hR.put hv rfl) hK⟩
   ·
    cases h
  ·
   cases h
/-! ### memory -/
def cellsOf : SV → List SV
 | .v x => x.cells.toList.map .v
 | .p i o => [.p i o]
def okCell : SV → Bool
 | .v x => x.oneCell'
 | .p _ _ => true
def Sst.wf (s : Sst P w0) : Bool:=(s.t.all fun x => x.2.below s.m.length) && (s.m.all fun b => b.cs.all fun c => c.below s.m.length)
def Sst.new (s : Sst P w0) (o : Oper) (ty : TypeId) (cs : List Value) : Option (Sst P w0) :=
 bif s.wf && Nat.ble s.x s.m.length then
  ({ s with m:=s.m ++ [Blk.mk ty (cs.map SV.v)] }.log (evR s o) (fun _ W => .ok (.value (.pointer (some ⟨W.heap.size,0,none⟩))) (W.alloc (.cells cs.toArray ty)))).put o.dst (.p s.m.length 0)
 else none
def evMem (s : Sst P w0) (o : Oper) : Option (Sst P w0) :=
 match o.op with
 | .alloc ty => match P.info? ty with
  | some inf => match inf.zero with
   | some z => s.new o ty z.cells.toList
   | none => none
  | none => none
 | .box ty x => match evX s x with
  | .v val => s.new o ty val.cells.toList
  | .p _ _ => none
 | .store ty x y => match evX s x with
  | .p i off => match s.m[i]?,P.info? ty with
   | some b,some inf =>
    bif Nat.ble s.x i && (Nat.beq (cellsOf (evX s y)).length inf.size && (Nat.ble (off + (cellsOf (evX s y)).length) b.cs.length && (cellsOf (evX s y)).all okCell)) then
     { s with m:=s.m.set i ⟨b.ty,b.cs.take off ++ (cellsOf (evX s y) ++ b.cs.drop (off + (cellsOf (evX s y)).length))⟩ }.put o.dst (.v undef)
    else none
   | _,_ => none
  | .v _ => none
 | _ => none
def isMem (o : Oper) : Bool:=match o.op with
 | .alloc _ | .box _ _ | .store _ _ _ => true
 | _ => false
def isStore (o : Oper) : Bool:=match o.op with
 | .store _ _ _ => true
 | _ => false
def evStep (s : Sst P w0) (o : Oper) : Option (Sst P w0):=bif isMem o then evMem s o else evVal s o
def evOps (ops : List Oper) : List Oper → Sst P w0 → Option (Sst P w0)
 | [],s => some s
 | o :: l,s => match evWant s ops o with
  | some true => match evStep s o with
   | some s1 => evOps ops l s1
   | none => none
  | some false => match s.put o.dst (.v undef) with
   | some s1 => evOps ops l s1
   | none => none
  | none => none
theorem cells_off {g k : Nat} (hne : k ≠ g) : ∀ (vs : List Value) (o : Nat) (w : World),(w.setCells g o vs).heap[k]? = w.heap[k]?
 | [],_,_ => rfl
 | _ :: r,o,_ => (cells_off hne r (o + 1) _).trans (Below.heap_setCell _ _ _ _ hne)
theorem cells_ext {w : World} {g : Nat} : ∀ (vs : List Value) (o : Nat) {W : World},Ext w W → w.heap.size ≤ g → Ext w (W.setCells g o vs)
 | [],_,_,h,_ => h
 | v :: r,o,_,h,hg => cells_ext r (o + 1) (zai h hg v) hg
theorem row_of_blk {w : World} {g t : Nat} {C : Array Value} (h : w.heap[g]? = some (.cells C t (0,0))) : w.rowIs g t C.size (fun i => C.getD i undef) :=
 ⟨C,h,rfl,fun i hi => by simp [hi]⟩
theorem cells_on {w : World} {g t o : Nat} {C : List Value} {vs : List Value} (h : w.heap[g]? = some (.cells C.toArray t (0,0))) (ho : o + vs.length ≤ C.length) :
  (w.setCells g o vs).heap[g]? = some (.cells (C.take o ++ (vs ++ C.drop (o + vs.length))).toArray t (0,0)):=by
 rw [blkOf (zeg vs o w _ (row_of_blk h))]
 congr 2
 refine (eq_arrOf ?_ fun i hi => ?_).symm
 ·
  simp; omega
 ·
  have hi' : i < C.length:=by simpa using hi
  by_cases h1 : i < o
  ·
   rw [if_neg (by omega)]
   simp [h1,hi',List.getElem?_append]
   omega
  ·
   by_cases h2 : i < o + vs.length
   ·
    rw [if_pos ⟨by omega,h2⟩]
    have h3 : i - o < vs.length:=by omega
    simp [List.getElem?_append,h1,h3,List.getD_eq_getElem?_getD,show min o C.length = o by omega]
   ·
    rw [if_neg (by omega)]
    simp [List.getElem?_append,h1,hi',show min o C.length = o by omega,show ¬ i - o < vs.length by omega,List.getElem?_drop,show o + vs.length + (i - o - vs.length) = i by omega]
theorem there_blk {w : World} {g t o n : Nat} {C : Array Value} (h : w.heap[g]? = some (.cells C t (0,0))) (ho : o + n ≤ C.size) : w.there g o n:=fun j hj => by
 have r:=row_of_blk h
 exact ⟨by rw [r.cell (show o + j < C.size by omega)]; rfl,r.frozen _⟩
theorem cellsOf_den {e : Nat → Nat} : ∀ (x : SV),(cellsOf x).map (SV.den e) = (x.den e).cells.toList
 | .v x => by simp [cellsOf,SV.den,Function.comp_def]
 | .p i o => rfl
theorem okCell_den {e : Nat → Nat} : ∀ {x : SV},okCell x = true → (x.den e).oneCell' = true
 | .v _,h => h
 | .p _ _,_ => rfl
def upE (e : Nat → Nat) (k g : Nat) : Nat → Nat:=fun j => if j = k then g else e j
theorem lookS_below {k : Nat} : ∀ {l : List (Nat × SV)} {i : Nat},(∀ x ∈ l,x.2.below k = true) → (lookS l i).below k = true
 | [],_,_ => rfl
 | x :: r,i,h => by
  show (lookS ((x.1,x.2) :: r) i).below _ = true
  rw [zgr]
  split
  ·
   exact h _ List.mem_cons_self
  ·
   exact lookS_below fun y hy => h y (List.mem_cons_of_mem _ hy)
theorem rel_add {s : Sst P w0} {a : Act} {e : Nat → Nat} {w : World} {g : Nat} {b : Blk} (hR : Rel s a e w) (hwf : s.wf = true) (hg : w.heap[g]? = some (b.obj (upE e s.m.length g))) (ho : w0.heap.size ≤ g) (hne : ∀ i,i < s.m.length → e i ≠ g) :
  Rel { s with m:=s.m ++ [b] } a (upE e s.m.length g) w:=by
 unfold Sst.wf at hwf
 rw [Bool.and_eq_true,List.all_eq_true,List.all_eq_true] at hwf
 have hlow : ∀ i,i < s.m.length → upE e s.m.length g i = e i:=fun i hi => if_neg (by omega)
 have hnew : upE e s.m.length g s.m.length = g:=if_pos rfl
 refine ⟨hR.size,hR.defers,fun i => ?_,fun i b' hb => ?_,fun i h1 h2 => ?_,fun i j h1 h2 h3 h4 => ?_,hR.ext⟩
 ·
  rw [hR.slot i]
  exact (den_env hlow (lookS_below hwf.1)).symm
 ·
  have hb : (s.m ++ [b])[i]? = some b':=hb
  by_cases hi : i < s.m.length
  ·
   rw [List.getElem?_append_left hi] at hb
   rw [hlow i hi,hR.blk i b' hb]
   unfold Blk.obj
   congr 3
   refine List.map_congr_left fun c hc => ?_
   have:=List.all_eq_true.1 (hwf.2 b' (List.mem_of_getElem? hb)) c hc
   exact (den_env hlow this).symm
  ·
   rw [List.getElem?_append_right (by omega)] at hb
   have hi0 : i - s.m.length = 0:=by
    have:=(List.getElem?_eq_some_iff.1 hb).1
    simpa using this
   rw [hi0] at hb
   obtain rfl : b = b':=by simpa using hb
   obtain rfl : i = s.m.length:=by omega
   rw [hnew]
   exact hg
 ·
  have h2 : i < s.m.length + 1:=by simpa using h2
  by_cases hi : i < s.m.length
  ·
   rw [hlow i hi]; exact hR.own i h1 hi
  ·
   obtain rfl : i = s.m.length:=by omega
   rw [hnew]; exact ho
 ·
  have h2 : i < s.m.length + 1:=by simpa using h2
  have h3 : j < s.m.length + 1:=by simpa using h3
  by_cases hi : i < s.m.length
  ·
   by_cases hj : j < s.m.length
   ·
    rw [hlow i hi,hlow j hj]; exact hR.far i j h1 hi hj h4
   ·
    obtain rfl : j = s.m.length:=by omega
    rw [hlow i hi,hnew]
    exact hne i hi
  ·
   obtain rfl : i = s.m.length:=by omega
   have hj : j < s.m.length:=by omega
   rw [hlow j hj,hnew]
   exact (hne j hj).symm
theorem obj_vals (e : Nat → Nat) (ty : TypeId) (cs : List Value) : (Blk.mk ty (cs.map SV.v)).obj e = .cells cs.toArray ty (0,0):=by
 unfold Blk.obj
 simp [Function.comp_def,SV.den]
theorem new_cut {s s' : Sst P w0} {o : Oper} {ty : TypeId} {cs : List Value} (hs : s.new o ty cs = some s') : s.wf = true ∧ s.x ≤ s.m.length ∧
  ({ s with m:=s.m ++ [Blk.mk ty (cs.map SV.v)] }.log (evR s o) (fun _ W => .ok (.value (.pointer (some ⟨W.heap.size,0,none⟩))) (W.alloc (.cells cs.toArray ty)))).put o.dst (.p s.m.length 0) = some s':=by
 unfold Sst.new at hs
 cases hw : (s.wf && Nat.ble s.x s.m.length) with
 | false => rw [hw] at hs; cases hs
 | true =>
  rw [hw] at hs
  rw [Bool.and_eq_true] at hw
  exact ⟨hw.1,Nat.le_of_ble_eq_true hw.2,hs⟩
theorem new_rel {s s' : Sst P w0} {o : Oper} {ty : TypeId} {cs : List Value} (hs : s.new o ty cs = some s') {a : Act} {e : Nat → Nat} {w : World} {g : Nat} (hR : Rel s a e w) (hg : w.heap[g]? = some (.cells cs.toArray ty (0,0))) (ho : w0.heap.size ≤ g) (hne : ∀ i,i < s.m.length → e i ≠ g) :
  Rel s' (a.put o.dst (.pointer (some ⟨g,0,none⟩))) (upE e s.m.length g) w:=by
 obtain ⟨hwf,_,hp⟩:=new_cut hs
 have h:=rel_add (b:=Blk.mk ty (cs.map SV.v)) hR hwf (by rw [obj_vals]; exact hg) ho hne
 exact (h.q s.q _).put hp (by show Value.pointer (some ⟨upE e s.m.length g s.m.length,0,none⟩) = _; rw [show upE e s.m.length g s.m.length = g from if_pos rfl])
theorem blk_lt {s : Sst P w0} {a : Act} {e : Nat → Nat} {w : World} (hR : Rel s a e w) {i : Nat} (hi : i < s.m.length) : e i < w.heap.size:=(Array.getElem?_eq_some_iff.1 (hR.blk i _ (List.getElem?_eq_getElem hi))).1
theorem zeb {s s' : Sst P w0} {o : Oper} {ty : TypeId} {cs : List Value} (hs : s.new o ty cs = some s') : Grows s s' ∧ (LogOk s'.g → ∀ {a e w},Rel s a e w → ∀ K : Act → World → Prop,(∀ a' e' w',Rel s' a' e' w' → Ext w w' → K a' w') → o.wp P a w K Q):=by
 obtain ⟨_,_,hp⟩:=new_cut hs
 have hg:=put_g hp
 refine ⟨⟨[_],hg.1⟩,fun hl a e w hR K hK => ?_⟩
 have hrun:=congrFun (congrFun (hl _ (by rw [hg.1]; exact List.mem_cons_self)) e) w
 unfold Oper.wp
 rw [hR.exec,show evR s o e w = _ from hrun,Oper.upon_value]
 have hE:=Ext.alloc w (.cells cs.toArray ty)
 exact hK _ _ _ (new_rel hs (hR.more hE) (zag _ _) (Below.size hR.ext) fun i hi => by have:=blk_lt hR hi; omega) hE
theorem mem_sound {s s' : Sst P w0} {o : Oper} (hs : evMem s o = some s') : Grows s s' ∧ (LogOk s'.g → ∀ {a e w},Rel s a e w → ∀ K : Act → World → Prop,(∀ a' e' w',Rel s' a' e' w' → (isStore o = false → Ext w w') → K a' w') → o.wp P a w K Q):=by
 unfold evMem at hs
 split at hs
 ·
  split at hs
  ·
   split at hs
   ·
    exact ⟨(zeb (Q:=Q) hs).1,fun hl a e w hR K hK => (zeb hs).2 hl hR K fun a' e' w' h1 h2 => hK a' e' w' h1 fun _ => h2⟩
   ·
    cases hs
  ·
   cases hs
 ·
  split at hs
  ·
   exact ⟨(zeb (Q:=Q) hs).1,fun hl a e w hR K hK => (zeb hs).2 hl hR K fun a' e' w' h1 h2 => hK a' e' w' h1 fun _ => h2⟩
  ·
   cases hs
 ·
  rename_i ty x y ho
  split at hs
  ·
   rename_i i off hx
   split at hs
   ·
    rename_i b inf hb hi
    obtain ⟨cs,hcs⟩ : ∃ cs,cs = cellsOf (evX s y):=⟨_,rfl⟩
    rw [← hcs] at hs
    cases hc : (Nat.ble s.x i && (Nat.beq cs.length inf.size && (Nat.ble (off + cs.length) b.cs.length && cs.all okCell))) with
    | false => rw [hc] at hs; cases hs
    | true =>
     rw [hc] at hs
     simp only [cond_true] at hs
     simp only [Bool.and_eq_true] at hc
     obtain ⟨c1,c2,c3,c4⟩:=hc
     have c1:=Nat.le_of_ble_eq_true c1
     have c2:=Nat.eq_of_beq_eq_true c2
     have c3:=Nat.le_of_ble_eq_true c3
     refine ⟨⟨[],(put_g hs).1⟩,fun _ a e w hR K hK => ?_⟩
     have hst : isStore o = true:=by unfold isStore; rw [ho]
     have hblk:=hR.blk i b hb
     have hil : i < s.m.length:=(List.getElem?_eq_some_iff.1 hb).1
     have hden:=cellsOf_den (e:=e) (evX s y)
     rw [← hcs] at hden
     have hlen : ((evX s y).den e).cells.size = cs.length:=by
      have:=congrArg List.length hden
      simpa using this.symm
     have hrun:=run_storeAt_mid (P:=P) w (e i) off ty ((evX s y).den e).cells (there_blk hblk (by rw [hlen]; simpa using c3)) (by rw [hi,hlen,c2]; rfl) (by
      rw [← Array.all_toList,← hden,List.all_map]
      exact List.all_eq_true.2 fun c hc => okCell_den (List.all_eq_true.1 c4 c hc))
     have hrun2 : (execOp a.eval o).run P w = .ok .skip (w.setCells (e i) off ((evX s y).den e).cells.toList):=by
      have hxa : a.eval x = .pointer (some ⟨e i,off,none⟩):=by rw [hR.eval]; show (evX s x).den e = _; rw [hx]; rfl
      have hya : a.eval y = (evX s y).den e:=by rw [hR.eval]
      unfold execOp
      simp only [ho,hxa,hya,Sem.run_bind]
      rw [show Instr.storeAt ty (.pointer (some ⟨e i,off,none⟩)) ((evX s y).den e) = Instr.storeAt ty (.pointer (some ⟨e i,off,none⟩)) (.agg ((evX s y).den e).cells) from rfl,hrun]
      simp
     unfold Oper.wp
     rw [hrun2,Oper.upon_skip]
     rw [← hden]
     have hown:=hR.own i c1 hil
     have hR2 : Rel { s with m:=s.m.set i ⟨b.ty,b.cs.take off ++ (cs ++ b.cs.drop (off + cs.length))⟩ } a e (w.setCells (e i) off (cs.map (SV.den e))):=by
      refine ⟨hR.size,hR.defers,hR.slot,fun j b' hb' => ?_,fun j h1 h2 => hR.own j h1 (by simpa using h2),fun j k h1 h2 h3 h4 => hR.far j k h1 (by simpa using h2) (by simpa using h3) h4,cells_ext _ _ hR.ext hown⟩
      have hb' : (s.m.set i ⟨b.ty,b.cs.take off ++ (cs ++ b.cs.drop (off + cs.length))⟩)[j]? = some b':=hb'
      by_cases hj : j = i
      ·
       subst hj
       rw [List.getElem?_set_self hil] at hb'
       obtain rfl:=Option.some.inj hb'
       unfold Blk.obj at hblk ⊢
       rw [cells_on hblk (by simpa using c3)]
       simp only [List.map_append,List.map_take,List.map_drop,List.length_map]
      ·
       rw [List.getElem?_set_ne (Ne.symm hj)] at hb'
       have hjl : j < s.m.length:=(List.getElem?_eq_some_iff.1 hb').1
       rw [cells_off (fun h => hR.far i j c1 hil hjl (Ne.symm hj) h.symm)]
       exact hR.blk j b' hb'
     exact hK _ e _ (hR2.put hs rfl) fun h => by rw [hst] at h; cases h
   ·
    cases hs
  ·
   cases hs
 ·
  cases hs
theorem zgk {s s' : Sst P w0} {o : Oper} (hs : evStep s o = some s') : Grows s s' ∧ (LogOk s'.g → ∀ {a e w},Rel s a e w → ∀ K : Act → World → Prop,(∀ a' e' w',Rel s' a' e' w' → (isStore o = false → Ext w w') → K a' w') → o.wp P a w K Q):=by
 unfold evStep at hs
 cases hm : isMem o with
 | true =>
  rw [hm] at hs
  exact mem_sound hs
 | false =>
  rw [hm] at hs
  refine ⟨(zfq hs).1,fun hl a e w hR K hK => ?_⟩
  obtain ⟨v,hmd,hR1⟩:=(zfq hs).2 hl hR
  exact hmd.wp (Ext.refl w) fun W' hW' => hK _ e W' (hR1.more hW') fun _ => hW'
theorem zcy {ops : List Oper} : ∀ {l : List Oper} {s s' : Sst P w0},evOps ops l s = some s' → Grows s s'
 | [],s,s',h => by
  obtain rfl : s = s':=by simpa [evOps] using h
  exact Grows.refl _
 | o :: l,s,s',h => by
  unfold evOps at h
  split at h
  ·
   split at h
   ·
    rename_i hv
    exact (zgk (Q:=fun _ _ _ => True) hv).1.trans (zcy h)
   ·
    cases h
  ·
   split at h
   ·
    rename_i hv
    exact (zct hv).trans (zcy h)
   ·
    cases h
  ·
   cases h
theorem ops_wp {ops : List Oper} : ∀ {l : List Oper} {s s' : Sst P w0} {a : Act} {e : Nat → Nat} {w : World},evOps ops l s = some s' → LogOk s'.g → Rel s a e w → (∀ a' e' w',Rel s' a' e' w' → Q .normal a' w') → wpList P ops.toArray Q l a w
 | [],s,s',a,e,w,h,_,hR,hK => by
  obtain rfl : s = s':=by simpa [evOps] using h
  exact wpList_nil (hK a e w hR)
 | o :: l,s,s',a,e,w,h,hl,hR,hK => by
  unfold evOps at h
  refine wpList_step fun K hK' => ?_
  split at h
  ·
   rename_i hw
   rw [if_pos (zcp hw hR)]
   split at h
   ·
    rename_i s1 hv
    exact (zgk hv).2 ((zcy h).ok hl) hR K fun a' e' w' h1 _ => hK' _ _ (ops_wp h hl h1 hK)
   ·
    cases h
  ·
   rename_i hw
   rw [if_neg (by rw [zcp hw hR]; exact Bool.false_ne_true)]
   split at h
   ·
    rename_i s1 hv
    exact hK' _ _ (ops_wp h hl (hR.put hv rfl) hK)
   ·
    cases h
  ·
   cases h
/-! ### a region that draws its order: values in whatever order,then what can come but one by one -/
def isAlloc (o : Oper) : Bool:=match o.op with
 | .alloc _ => true
 | _ => false
def oneB (ops : List Oper) (n k : Nat) (listed : Array Bool) : Bool:=decide (Region.ready .any ops.toArray listed = [k]) && (match ops[k]? with
  | some o => Nat.ble n k || !isStore o
  | none => false)
def pairB (ops : List Oper) (k : Nat) (listed : Array Bool) : Bool :=
 decide (Region.ready .any ops.toArray listed = [k,k + 1]) && (decide (Region.ready .any ops.toArray (listed.setIfInBounds k true) = [k + 1]) && (decide (Region.ready .any ops.toArray (listed.setIfInBounds (k + 1) true) = [k]) &&
  (match ops[k]?,ops[k + 1]? with
  | some o,some o' => isAlloc o && (isAlloc o' && (o.guard.isNone && (o'.guard.isNone && (o.dst.isSome && decide (o.dst ≠ o'.dst)))))
  | _,_ => false)))
def tailB (ops : List Oper) (n : Nat) : Nat → Nat → Array Bool → Bool
 | 0,_,listed => decide (Region.ready .any ops.toArray listed = [])
 | 1,k,listed => oneB ops n k listed && decide (Region.ready .any ops.toArray (listed.setIfInBounds k true) = [])
 | f + 2,k,listed => (oneB ops n k listed && tailB ops n (f + 1) (k + 1) (listed.setIfInBounds k true)) || (pairB ops k listed && tailB ops n f (k + 2) ((listed.setIfInBounds k true).setIfInBounds (k + 1) true))
theorem alloc_step {s s' : Sst P w0} {o : Oper} (ha : isAlloc o = true) (hs : evStep s o = some s') : ∃ ty cs,o.op = .alloc ty ∧ s.new o ty cs = some s':=by
 unfold isAlloc at ha
 split at ha
 ·
  rename_i ty ho
  have hm : isMem o = true:=by unfold isMem; rw [ho]
  unfold evStep at hs
  rw [hm] at hs
  simp only [cond_true] at hs
  unfold evMem at hs
  rw [ho] at hs
  simp only at hs
  split at hs
  ·
   split at hs
   ·
    exact ⟨ty,_,ho,hs⟩
   ·
    cases hs
  ·
   cases hs
 ·
  cases ha
theorem alloc_run {s s' : Sst P w0} {o : Oper} {ty : TypeId} {cs : List Value} (ho : o.op = .alloc ty) (hs : s.new o ty cs = some s') (hl : LogOk s'.g) (a : Act) (W : World) : (execOp a.eval o).run P W = .ok (.value (.pointer (some ⟨W.heap.size,0,none⟩))) (W.alloc (.cells cs.toArray ty)):=by
 obtain ⟨_,_,hp⟩:=new_cut hs
 have hrun:=congrFun (congrFun (hl _ (by rw [(put_g hp).1]; exact List.mem_cons_self)) fun _ => 0) W
 have e : execOp a.eval o = execOp (fun x => (evX s x).den fun _ => 0) o:=by
  unfold execOp
  simp only [ho]
 rw [e]
 exact hrun
theorem one_wp {ops : List Oper} {n k : Nat} {listed : Array Bool} {l : List Oper} {o : Oper} {s s' : Sst P w0} {a : Act} {e : Nat → Nat} {w : World} (ho : ops[k]? = some o) (hB : oneB ops n k listed = true) (h : evOps ops (o :: l) s = some s') (hl : LogOk s'.g) (hR : Rel s a e w)
  (hnext : ∀ {s1 : Sst P w0} {a' e' w'},evOps ops l s1 = some s' → Rel s1 a' e' w' → wpG P .any ops.toArray Q n l.length (listed.setIfInBounds k true) a' w') : wpG P .any ops.toArray Q n (o :: l).length listed a w:=by
 unfold oneB at hB
 rw [ho] at hB
 simp only [Bool.and_eq_true,decide_eq_true_eq] at hB
 obtain ⟨hr,hn⟩:=hB
 refine ⟨fun h0 => (by rw [hr] at h0; cases h0),fun i hi W hW => ?_⟩
 rw [hr] at hi
 obtain rfl : i = k:=by simpa using hi
 have hRW:=hR.more hW
 have hkeep : i < n → isStore o = false:=fun hlt => by
  cases hs : isStore o with
  | false => rfl
  | true =>
   rw [hs] at hn
   have : n ≤ i:=by simpa using hn
   omega
 unfold evOps at h
 refine wpOp_step (by simpa using ho) fun K hK' => ?_
 split at h
 ·
  rename_i hw
  rw [if_pos (zcp hw hRW)]
  split at h
  ·
   rename_i s1 hv
   exact (zgk hv).2 ((zcy h).ok hl) hRW K fun a' e' w' h1 h2 => hK' _ _ ⟨fun hlt => h2 (hkeep hlt),hnext h h1⟩
  ·
   cases h
 ·
  rename_i hw
  rw [if_neg (by rw [zcp hw hRW]; exact Bool.false_ne_true)]
  split at h
  ·
   rename_i s1 hv
   exact hK' _ _ ⟨fun _ => Ext.refl _,hnext h (hRW.put hv rfl)⟩
  ·
   cases h
 ·
  cases h
theorem zhk {ops l : List Oper} {k : Nat} {o : Oper} (hd : ops.drop k = o :: l) : ops[k]? = some o ∧ ops.drop (k + 1) = l:=by
 have h1:=congrArg (fun x => x[0]?) hd
 have h2:=congrArg (fun x => x.drop 1) hd
 exact ⟨by simpa using h1,by simpa [List.drop_drop] using h2⟩
theorem plain_op {ops : List Oper} {o : Oper} {l : List Oper} {s s' : Sst P w0} (hg : o.guard.isNone = true) (h : evOps ops (o :: l) s = some s') : ∃ s1,evStep s o = some s1 ∧ evOps ops l s1 = some s':=by
 unfold evOps at h
 have hw : evWant s ops o = some true:=by
  unfold evWant
  rw [Option.isNone_iff_eq_none.1 hg]
 rw [hw] at h
 simp only at h
 split at h
 ·
  rename_i s1 hv
  exact ⟨s1,hv,h⟩
 ·
  cases h
theorem zhq {o : Oper} {ty : TypeId} {cs : List Value} {s s' : Sst P w0} (ho : o.op = .alloc ty) (hs : s.new o ty cs = some s') (hl : LogOk s'.g) {a : Act} {W : World} {K : Act → World → Prop} (h : K (a.put o.dst (.pointer (some ⟨W.heap.size,0,none⟩))) (W.alloc (.cells cs.toArray ty))) : o.wp P a W K Q:=by
 unfold Oper.wp
 rw [alloc_run ho hs hl a W,Oper.upon_value]
 exact h
theorem tail_wp {ops : List Oper} {n : Nat} : ∀ {l : List Oper} {k : Nat} {listed : Array Bool} {s s' : Sst P w0} {a : Act} {e : Nat → Nat} {w : World},ops.drop k = l → tailB ops n l.length k listed = true → evOps ops l s = some s' → LogOk s'.g → Rel s a e w →
  (∀ a' e' w',Rel s' a' e' w' → Q .normal a' w') → wpG P .any ops.toArray Q n l.length listed a w
 | [],k,listed,s,s',a,e,w,_,hB,h,_,hR,hK => by
  obtain rfl : s = s':=by simpa [evOps] using h
  exact ⟨of_decide_eq_true hB,fun W hW => hK a e W (hR.more hW)⟩
 | [o],k,listed,s,s',a,e,w,hd,hB,h,hl,hR,hK => by
  have hB : (oneB ops n k listed && decide (Region.ready .any ops.toArray (listed.setIfInBounds k true) = [])) = true:=hB
  rw [Bool.and_eq_true] at hB
  exact one_wp (zhk hd).1 hB.1 h hl hR fun h1 hR1 => tail_wp (l:=[]) (zhk hd).2 hB.2 h1 hl hR1 hK
 | o :: o' :: l,k,listed,s,s',a,e,w,hd,hB,h,hl,hR,hK => by
  have hB : ((oneB ops n k listed && tailB ops n (l.length + 1) (k + 1) (listed.setIfInBounds k true)) || (pairB ops k listed && tailB ops n l.length (k + 2) ((listed.setIfInBounds k true).setIfInBounds (k + 1) true))) = true:=hB
  obtain ⟨ho,hd'⟩:=zhk hd
  obtain ⟨ho',hd''⟩:=zhk hd'
  rw [Bool.or_eq_true,Bool.and_eq_true,Bool.and_eq_true] at hB
  rcases hB with ⟨h1,h2⟩ | ⟨h1,h2⟩
  ·
   exact one_wp ho h1 h hl hR fun h3 hR1 => tail_wp (l:=o' :: l) hd' h2 h3 hl hR1 hK
  ·
   unfold pairB at h1
   rw [ho,ho'] at h1
   simp only [Bool.and_eq_true,decide_eq_true_eq] at h1
   obtain ⟨r1,r2,r3,ha,ha',hg,hg',hsome,hne⟩:=h1
   obtain ⟨s1,hs1,h⟩:=plain_op hg h
   obtain ⟨s2,hs2,h⟩:=plain_op hg' h
   obtain ⟨ty,cs,hty,hn1⟩:=alloc_step ha hs1
   obtain ⟨ty',cs',hty',hn2⟩:=alloc_step ha' hs2
   have hl2:=(zcy h).ok hl
   have hl1:=(zeb (Q:=Q) hn2).1.ok hl2
   have hm1 : s1.m = s.m ++ [Blk.mk ty (cs.map SV.v)]:=(put_g (new_cut hn1).2.2).2.1
   have fin : ∀ {g g' : Nat} {W : World},Ext w W → W.heap[g]? = some (.cells cs.toArray ty (0,0)) → W.heap[g']? = some (.cells cs'.toArray ty' (0,0)) → w.heap.size ≤ g → w.heap.size ≤ g' → g ≠ g' →
     wpG P .any ops.toArray Q n l.length ((listed.setIfInBounds k true).setIfInBounds (k + 1) true) ((a.put o.dst (.pointer (some ⟨g,0,none⟩))).put o'.dst (.pointer (some ⟨g',0,none⟩))) W:=fun {g g' W} hW b1 b2 g1 g2 gn => by
    have hw0:=Below.size hR.ext
    have R1:=new_rel hn1 (hR.more hW) b1 (Nat.le_trans hw0 g1) fun i hi => by have:=blk_lt hR hi; omega
    have R2:=new_rel hn2 R1 b2 (Nat.le_trans hw0 g2) fun i hi => by
     rw [hm1,List.length_append] at hi
     unfold upE
     by_cases hil : i = s.m.length
     ·
      rw [if_pos hil]; exact gn
     ·
      rw [if_neg hil]
      have:=blk_lt hR (show i < s.m.length by simp only [List.length_cons,List.length_nil] at hi; omega)
      omega
    exact tail_wp hd'' h2 h hl R2 hK
   refine ⟨fun h0 => (by rw [r1] at h0; cases h0),fun i hi W hW => ?_⟩
   rw [r1] at hi
   have hi2 : i = k ∨ i = k + 1:=by simpa using hi
   rcases hi2 with rfl | rfl
   ·
    refine zcf (by simpa using ho) (Option.isNone_iff_eq_none.1 hg) (zhq hty hn1 hl1 ⟨fun _ => Ext.alloc _ _,?_⟩)
    refine ⟨fun h0 => (by rw [r2] at h0; cases h0),fun j hj W1 hW1 => ?_⟩
    rw [r2] at hj
    obtain rfl : j = i + 1:=by simpa using hj
    refine zcf (by simpa using ho') (Option.isNone_iff_eq_none.1 hg') (zhq hty' hn2 hl2 ⟨fun _ => Ext.alloc _ _,?_⟩)
    have z1:=Below.size hW
    have z2:=Below.size hW1
    simp only [World.size_alloc] at z2
    exact fin ((hW.trans (Ext.alloc _ _)).trans (hW1.trans (Ext.alloc _ _))) ((hW1.trans (Ext.alloc _ _)).block (zag _ _)) (zag _ _) z1 (by omega) (by omega)
   ·
    refine zcf (by simpa using ho') (Option.isNone_iff_eq_none.1 hg') (zhq hty' hn2 hl2 ⟨fun _ => Ext.alloc _ _,?_⟩)
    refine ⟨fun h0 => (by rw [r3] at h0; cases h0),fun j hj W1 hW1 => ?_⟩
    rw [r3] at hj
    obtain rfl : j = k:=by simpa using hj
    refine zcf (by simpa using ho) (Option.isNone_iff_eq_none.1 hg) (zhq hty hn1 hl1 ⟨fun _ => Ext.alloc _ _,?_⟩)
    have z1:=Below.size hW
    have z2:=Below.size hW1
    simp only [World.size_alloc] at z2
    rw [Array.setIfInBounds_comm _ _ (by omega),Act.put_comm a _ _ (fun d h0 h1 => hne (by rw [h0,h1]))]
    exact fin ((hW.trans (Ext.alloc _ _)).trans (hW1.trans (Ext.alloc _ _))) (zag _ _) ((hW1.trans (Ext.alloc _ _)).block (zag _ _)) (by omega) z1 (by omega)
def evDraw (ops : List Oper) (s : Sst P w0) : Option (Sst P w0) :=
 let m:=(ops.takeWhile fun o => !isMem o).length
 let n:=(ops.takeWhile fun o => !isStore o).length
 bif P.follows .mixedOrders && (madeB ops m n && tailB ops n (ops.drop m).length m (marked m 0 (Array.replicate ops.length false))) then
  match evVals ops (ops.take m) s with
  | some s1 => evOps ops (ops.drop m) s1
  | none => none
 else none
theorem draw_grow {ops : List Oper} {s s' : Sst P w0} (h : evDraw ops s = some s') : Grows s s':=by
 unfold evDraw at h
 simp only at h
 generalize (P.follows .mixedOrders && _) = c at h
 cases c with
 | false => cases h
 | true =>
  simp only [cond_true] at h
  split at h
  ·
   rename_i hv
   exact (zfp hv).trans (zcy h)
  ·
   cases h
theorem draw_wp {id : Nat} {ops : List Oper} {s s' : Sst P w0} {a : Act} {e : Nat → Nat} {w : World} (h : evDraw ops s = some s') (hl : LogOk s'.g) (hR : Rel s a e w) (hK : ∀ a' e' w',Rel s' a' e' w' → Q .normal a' w') : (Code.region id ops.toArray true).wp P Q a w:=by
 unfold evDraw at h
 simp only at h
 obtain ⟨m,hm⟩ : ∃ m,m = (ops.takeWhile fun o => !isMem o).length:=⟨_,rfl⟩
 obtain ⟨n,hn⟩ : ∃ n,n = (ops.takeWhile fun o => !isStore o).length:=⟨_,rfl⟩
 rw [← hm,← hn] at h
 cases hc : (P.follows .mixedOrders && (madeB ops m n && tailB ops n (ops.drop m).length m (marked m 0 (Array.replicate ops.length false)))) with
 | false => rw [hc] at h; cases h
 | true =>
  rw [hc] at h
  simp only [cond_true] at h
  simp only [Bool.and_eq_true] at hc
  split at h
  ·
   rename_i s1 hv
   refine wp_region_noPanic (zdh n hc.1 hc.2.1 (fun _ _ _ _ _ h => h) (vals_mk hv ((zcy h).ok hl) hR fun a' h1 => ?_))
   unfold Rest
   have:=tail_wp (Q:=NoPanic Q) rfl hc.2.2 h hl h1 fun a2 e2 w2 h2 => hK a2 e2 w2 h2
   rwa [List.length_drop] at this
  ·
   cases h
/-! ### code -/
inductive Xt where
 | normal
 | exit (id : Nat)
 | ret
def Xt.to : Xt → Exit
 | .normal => .normal
 | .exit id => .exit id
 | .ret => .ret
def evC : Code → Sst P w0 → Option (Xt × Sst P w0)
 | .skip,s => some (.normal,s)
 | .label _,s => some (.normal,s)
 | .region _ ops draw,s => (bif draw then evDraw ops.toList s else evOps ops.toList ops.toList s).map fun s => (.normal,s)
 | .seq a b,s => match evC a s with
  | some (.normal,s1) => evC b s1
  | r => r
 | .cond c a b,s => match evX s c with
  | .v (.bool true) => evC a s
  | .v (.bool false) => evC b s
  | _ => none
 | .block id c,s => match evC c s with
  | some (.exit j,s1) => bif Nat.beq j id then some (.normal,s1) else some (.exit j,s1)
  | r => r
 | .scope c,s => evC c s
 | .exit id,s => some (.exit id,s)
 | .ret,s => some (.ret,s)
 | _,_ => none
theorem zdw : ∀ {c : Code} {s s' : Sst P w0} {x : Xt},evC c s = some (x,s') → Grows s s'
 | .skip,s,s',x,h => by
  obtain ⟨_,rfl⟩ : _ ∧ s = s':=by simpa [evC] using h
  exact Grows.refl _
 | .label _,s,s',x,h => by
  obtain ⟨_,rfl⟩ : _ ∧ s = s':=by simpa [evC] using h
  exact Grows.refl _
 | .region _ ops draw,s,s',x,h => by
  unfold evC at h
  rw [Option.map_eq_some_iff] at h
  obtain ⟨s1,h,he⟩:=h
  obtain ⟨_,rfl⟩:=Prod.mk.injEq .. ▸ he
  cases draw with
  | true => exact draw_grow h
  | false => exact zcy h
 | .seq a b,s,s',x,h => by
  unfold evC at h
  split at h
  ·
   rename_i s1 ha
   exact (zdw ha).trans (zdw h)
  ·
   exact zdw h
 | .cond c a b,s,s',x,h => by
  unfold evC at h
  split at h
  ·
   exact zdw h
  ·
   exact zdw h
  ·
   cases h
 | .block id c,s,s',x,h => by
  unfold evC at h
  split at h
  ·
   rename_i j s1 hc
   cases hj : Nat.beq j id with
   | true =>
    rw [hj] at h
    obtain ⟨_,rfl⟩ : _ ∧ s1 = s':=by simpa using h
    exact zdw hc
   | false =>
    rw [hj] at h
    obtain ⟨_,rfl⟩ : _ ∧ s1 = s':=by simpa using h
    exact zdw hc
  ·
   exact zdw h
 | .scope c,s,s',x,h => by
  unfold evC at h
  exact zdw h
 | .exit id,s,s',x,h => by
  obtain ⟨_,rfl⟩ : _ ∧ s = s':=by simpa [evC] using h
  exact Grows.refl _
 | .ret,s,s',x,h => by
  obtain ⟨_,rfl⟩ : _ ∧ s = s':=by simpa [evC] using h
  exact Grows.refl _
 | .loop _,_,_,_,h => by simp [evC] at h
 | .rangeFunc _ _ _ _,_,_,_,h => by simp [evC] at h
 | .goto _,_,_,_,h => by simp [evC] at h
 | .refuse _,_,_,_,h => by simp [evC] at h
theorem c_wp : ∀ {c : Code} {Q : Exit → Act → World → Prop} {s s' : Sst P w0} {x : Xt} {a : Act} {e : Nat → Nat} {w : World},evC c s = some (x,s') → LogOk s'.g → Rel s a e w → (∀ a' e' w',Rel s' a' e' w' → Q x.to a' w') → c.wp P Q a w
 | .skip,Q,s,s',x,a,e,w,h,_,hR,hK => by
  obtain ⟨rfl,rfl⟩ : Xt.normal = x ∧ s = s':=by simpa [evC] using h
  exact wp_skip (hK a e w hR)
 | .label _,Q,s,s',x,a,e,w,h,_,hR,hK => by
  obtain ⟨rfl,rfl⟩ : Xt.normal = x ∧ s = s':=by simpa [evC] using h
  exact wp_label (hK a e w hR)
 | .region _ ops draw,Q,s,s',x,a,e,w,h,hl,hR,hK => by
  unfold evC at h
  rw [Option.map_eq_some_iff] at h
  obtain ⟨s1,h,he⟩:=h
  obtain ⟨rfl,rfl⟩ : Xt.normal = x ∧ s1 = s':=by simpa using he
  cases draw with
  | true => simpa using draw_wp (ops:=ops.toList) h hl hR hK
  | false => exact wp_region_list (by simpa using ops_wp (ops:=ops.toList) h hl hR hK)
 | .seq a b,Q,s,s',x,a',e,w,h,hl,hR,hK => by
  unfold evC at h
  refine wp_seq ?_
  split at h
  ·
   rename_i s1 ha
   exact c_wp ha ((zdw h).ok hl) hR fun a2 e2 w2 h2 => c_wp h hl h2 hK
  ·
   rename_i hne
   refine c_wp h hl hR fun a2 e2 w2 h2 => ?_
   have:=hK a2 e2 w2 h2
   cases x with
   | normal => exact absurd h (fun hh => hne _ hh)
   | exit id => exact this
   | ret => exact this
 | .cond c x y,Q,s,s',_,a,e,w,h,hl,hR,hK => by
  unfold evC at h
  have hc : a.eval c = (evX s c).den e:=by rw [hR.eval]
  split at h
  ·
   rename_i he
   rw [he] at hc
   exact wp_cond_true hc (c_wp h hl hR hK)
  ·
   rename_i he
   rw [he] at hc
   exact wp_cond_false hc (c_wp h hl hR hK)
  ·
   cases h
 | .block id c,Q,s,s',x,a,e,w,h,hl,hR,hK => by
  unfold evC at h
  refine wp_block ?_
  split at h
  ·
   rename_i j s1 hc
   cases hj : Nat.beq j id with
   | true =>
    rw [hj] at h
    obtain ⟨rfl,rfl⟩ : Xt.normal = x ∧ s1 = s':=by simpa using h
    have hj:=Nat.eq_of_beq_eq_true hj
    refine c_wp hc hl hR fun a2 e2 w2 h2 => ?_
    show (if j = id then Q .normal a2 w2 else Q (.exit j) a2 w2)
    rw [if_pos hj]
    exact hK a2 e2 w2 h2
   | false =>
    rw [hj] at h
    obtain ⟨rfl,rfl⟩ : Xt.exit j = x ∧ s1 = s':=by simpa using h
    have hj : j ≠ id:=fun hh => by subst hh; simp at hj
    refine c_wp hc hl hR fun a2 e2 w2 h2 => ?_
    show (if j = id then Q .normal a2 w2 else Q (.exit j) a2 w2)
    rw [if_neg hj]
    exact hK a2 e2 w2 h2
  ·
   rename_i hne
   refine c_wp h hl hR fun a2 e2 w2 h2 => ?_
   have:=hK a2 e2 w2 h2
   cases x with
   | normal => exact this
   | exit j => exact absurd h (fun hh => hne _ _ hh)
   | ret => exact this
 | .scope c,Q,s,s',x,a,e,w,h,hl,hR,hK => by
  unfold evC at h
  refine wp_scope_straight (c_wp h hl hR fun a2 e2 w2 h2 => ?_)
  have:=hK a2 e2 w2 h2
  cases x <;> exact this
 | .exit id,Q,s,s',x,a,e,w,h,_,hR,hK => by
  obtain ⟨rfl,rfl⟩ : Xt.exit id = x ∧ s = s':=by simpa [evC] using h
  exact wp_exit (hK a e w hR)
 | .ret,Q,s,s',x,a,e,w,h,_,hR,hK => by
  obtain ⟨rfl,rfl⟩ : Xt.ret = x ∧ s = s':=by simpa [evC] using h
  exact wp_ret (hK a e w hR)
 | .loop _,_,_,_,_,_,_,_,h,_,_,_ => by simp [evC] at h
 | .rangeFunc _ _ _ _,_,_,_,_,_,_,_,h,_,_,_ => by simp [evC] at h
 | .goto _,_,_,_,_,_,_,_,h,_,_,_ => by simp [evC] at h
 | .refuse _,_,_,_,_,_,_,_,h,_,_,_ => by simp [evC] at h
end
section
variable {P : Program} {w0 : World}
def evRV (s : Sst P w0) : ResultVar → Option Value
 | .tmp t => match lookS s.t t with
  | .v x => some x
  | .p _ _ => none
 | .cell t ty => match lookS s.t t with
  | .p i off => match s.m[i]?,P.underlying ty with
   | some b,some d => bif isRowT d then
     match P.info? ty with
     | some inf => match toVals ((b.cs.drop off).take inf.size) with
      | some vs => bif Nat.beq vs.length inf.size then some (.agg vs.toArray) else none
      | none => none
     | none => none
    else match b.cs[off]? with
     | some (.v x) => some x
     | _ => none
   | _,_ => none
  | .v _ => none
def rvRun (tmps : Array Value) : ResultVar → Sem Value
 | .tmp t => pure (tmps.getD t undef)
 | .cell a t => do loadVar t (← asAddr (tmps.getD a undef))
theorem zdz {s : Sst P w0} {r : ResultVar} {v : Value} {a : Act} {e : Nat → Nat} {w : World} (h : evRV s r = some v) (hR : Rel s a e w) : (rvRun a.tmps r).run P w = .ok v w:=by
 cases r with
 | tmp t =>
  unfold evRV at h
  simp only at h
  split at h
  ·
   rename_i x hx
   injection h with h
   subst h
   show (pure (a.tmps.getD t undef) : Sem Value).run P w = _
   rw [hR.slot t,hx]
   exact Sem.run_pure ..
  ·
   cases h
 | cell t ty =>
  unfold evRV at h
  simp only at h
  split at h
  ·
   rename_i i off hx
   have ha : a.tmps.getD t undef = .pointer (some ⟨e i,off,none⟩):=by rw [hR.slot t,hx]; rfl
   have hrun : (rvRun a.tmps (.cell t ty)).run P w = (loadVar ty ⟨e i,off,none⟩).run P w:=by
    show (do loadVar ty (← asAddr (a.tmps.getD t undef)) : Sem Value).run P w = _
    rw [ha]
    simp [asAddr]
   rw [hrun]
   split at h
   ·
    rename_i b d hb hu
    have hblk:=hR.blk i b hb
    cases hd : isRowT d with
    | true =>
     rw [hd] at h
     simp only [cond_true] at h
     split at h
     ·
      rename_i inf hi
      split at h
      ·
       rename_i vs hvs
       cases hl : Nat.beq vs.length inf.size with
       | false => rw [hl] at h; cases h
       | true =>
        rw [hl] at h
        have hlen:=Nat.eq_of_beq_eq_true hl
        obtain rfl : Value.agg vs.toArray = v:=by simpa using h
        refine run_loadVar_mid w (e i) off ty vs d (fun j u hu => ?_) hu (by cases d <;> simp_all [isRowT]) (by rw [hi]; simp [hlen])
        have hj : j < vs.length:=(List.getElem?_eq_some_iff.1 hu).1
        rw [cell_of_row w (e i) (off + j) _ _ _ hblk]
        have hm:=zgi (e:=e) hvs
        rw [← hm,← hlen,List.getElem?_map,List.getElem?_take_of_lt (by omega),List.getElem?_drop] at hu
        simpa using hu
      ·
       cases h
     ·
      cases h
    | false =>
     rw [hd] at h
     simp only [cond_false] at h
     split at h
     ·
      rename_i x hc
      obtain rfl : x = v:=by simpa using h
      have hcell : w.cell? ⟨e i,off,none⟩ = some x:=by
       rw [cell_of_row w (e i) off _ _ _ hblk]
       simp [hc,SV.den]
      have hl : (load ⟨e i,off,none⟩).run P w = .ok x w:=by simp [go_sem,hcell]
      simp only [loadVar,Sem.run_bind,agg_no hu hd w,Result.andThen_ok,Bool.false_eq_true,if_false,hl]
     ·
      cases h
   ·
    cases h
  ·
   cases h
def evRes (s : Sst P w0) (fn : Func) : Option Value :=
 match fn.results.toList with
 | [a] => evRV s a
 | [a,b] => match evRV s a,evRV s b with
  | some x,some y => some (.tuple #[x,y])
  | _,_ => none
 | [a,b,c] => match evRV s a,evRV s b,evRV s c with
  | some x,some y,some z => some (.tuple #[x,y,z])
  | _,_,_ => none
 | _ => none
theorem results_rv (fn : Func) (tmps : Array Value) : results fn tmps = (do let vs ← fn.results.mapM (rvRun tmps); pure (if h : vs.size = 1 then vs[0] else .tuple vs)):=by
 unfold results
 congr 1
theorem res_sound {s : Sst P w0} {fn : Func} {v : Value} {a : Act} {e : Nat → Nat} {w : World} (h : evRes s fn = some v) (hR : Rel s a e w) : (results fn a.tmps).run P w = .ok v w:=by
 rw [results_rv]
 unfold evRes at h
 split at h
 ·
  rename_i x hx
  have hx : fn.results = #[x]:=by apply Array.toList_inj.1; simpa using hx
  have hr:=zdz h hR
  rw [hx]
  simp [hr]
 ·
  rename_i x y hx
  have hx : fn.results = #[x,y]:=by apply Array.toList_inj.1; simpa using hx
  split at h
  ·
   rename_i u v h1 h2
   injection h with h
   subst h
   have hr1:=zdz h1 hR
   have hr2:=zdz h2 hR
   rw [hx]
   simp [hr1,hr2]
  ·
   cases h
 ·
  rename_i x y z hx
  have hx : fn.results = #[x,y,z]:=by apply Array.toList_inj.1; simpa using hx
  split at h
  ·
   rename_i u v t h1 h2 h3
   injection h with h
   subst h
   have hr1:=zdz h1 hR
   have hr2:=zdz h2 hR
   have hr3:=zdz h3 hR
   rw [hx]
   simp [hr1,hr2,hr3]
  ·
   cases h
 ·
  cases h
def enumS : Nat → List SV → List (Nat × SV)
 | _,[] => []
 | k,x :: r => (k,x) :: enumS (k + 1) r
theorem enum_look : ∀ (l : List SV) (k i : Nat),lookS (enumS k l) i = if k ≤ i then l.getD (i - k) (.v undef) else .v undef
 | [],k,i => by
  show SV.v undef = _
  split <;> simp
 | x :: r,k,i => by
  show lookS ((k,x) :: enumS (k + 1) r) i = _
  rw [zgr,enum_look r (k + 1) i]
  by_cases h : i = k
  ·
   subst h
   rw [if_pos rfl,if_pos (Nat.le_refl _),Nat.sub_self]
   rfl
  ·
   rw [if_neg h]
   by_cases h2 : k ≤ i
   ·
    rw [if_pos (by omega),if_pos h2,show i - k = (i - (k + 1)) + 1 by omega]
    rfl
   ·
    rw [if_neg (by omega),if_neg h2]
def badLog : List (Fun2 × Fun2):=[(fun _ W => .ok .skip W,fun _ W => .ok .recover W)]
def start (P : Program) (w0 : World) (fn : Func) (args : List SV) (m : List Blk) (q : List (Orc P w0)) : Sst P w0 :=
 { n:=args.length + (fn.ntmps - args.length),t:=enumS 0 args,m:=m,x:=m.length,q:=q,g:=[] }
def autoLog (P : Program) (w0 : World) (fn : Func) (args : List SV) (m : List Blk) (q : List (Orc P w0)) (v : Value) : List (Fun2 × Fun2) :=
 match fn.body with
 | some c => match evC c (start P w0 fn args m q) with
  | some (.exit _,_) => badLog
  | some (_,s) => match evRes s fn with
   | some u => (fun _ W => .ok (.value u) W,fun _ W => .ok (.value v) W) :: s.g
   | none => badLog
  | none => badLog
 | none => badLog
theorem log_of_map : ∀ {l : List (Fun2 × Fun2)},l.map Prod.fst = l.map Prod.snd → LogOk l
 | [],_ => fun p hp => by cases hp
 | x :: r,h => by
  rw [List.map_cons,List.map_cons] at h
  injection h with h1 h2
  intro p hp
  rcases List.mem_cons.1 hp with rfl | hp
  ·
   exact h1
  ·
   exact log_of_map h2 p hp
theorem bad_no (w : World) : ¬ LogOk badLog:=fun h => by
 have:=congrFun (congrFun (h _ (List.mem_singleton.2 rfl)) fun _ => 0) w
 cases this
theorem auto {f : FuncId} {fn : Func} {w : World} (hf : P.funcs[f]? = some fn) (args : List SV) (m : List Blk) (e : Nat → Nat) (q : List (Orc P w)) (v : Value)
  (hm : ∀ (i : Nat) b,m[i]? = some b → w.heap[e i]? = some (b.obj e)) (chk : (autoLog P w fn args m q v).map Prod.fst = (autoLog P w fn args m q v).map Prod.snd) :
  Calls P f (args.map (SV.den e)).toArray w fun e' w' => e' = .returned v ∧ Ext w w':=by
 have hl:=log_of_map chk
 unfold autoLog at hl
 split at hl
 ·
  rename_i c hc
  have hR : Rel (start P w fn args m q) { tmps:=(args.map (SV.den e)).toArray ++ Array.replicate (fn.ntmps - (args.map (SV.den e)).toArray.size) undef,defers:=[] } e w:=by
   refine ⟨by simp [start],rfl,fun i => ?_,hm,fun i h1 h2 => ?_,fun i j h1 h2 h3 h4 => ?_,Ext.refl w⟩
   ·
    show _ = (lookS (enumS 0 args) i).den e
    rw [enum_look,if_pos (Nat.zero_le _),Nat.sub_zero]
    by_cases hi : i < args.length
    ·
     simp [Array.getD_eq_getD_getElem?,Array.getElem?_append,hi,List.getD_eq_getElem?_getD]
    ·
     simp [Array.getD_eq_getD_getElem?,Array.getElem?_append,hi,List.getD_eq_getElem?_getD,Array.getElem?_replicate,SV.den]
     split <;> rfl
   ·
    have h1 : m.length ≤ i:=h1
    have h2 : i < m.length:=h2
    omega
   ·
    have h1 : m.length ≤ i:=h1
    have h2 : i < m.length:=h2
    omega
  refine calls_of_wp hf hc ?_
  split at hl
  ·
   exact absurd hl (bad_no w)
  ·
   rename_i x s hne hev
   split at hl
   ·
    rename_i u hu
    have hs : LogOk s.g:=fun p hp => hl p (List.mem_cons_of_mem _ hp)
    have huv:=congrFun (congrFun (hl _ List.mem_cons_self) e) w
    have huv : u = v:=by simpa using huv
    refine c_wp hev hs hR fun a' e' w' h => ?_
    have hres:=res_sound hu h
    rw [huv] at hres
    cases x with
    | normal => exact ⟨h.defers,v,hres,rfl,h.ext⟩
    | ret => exact ⟨h.defers,v,hres,rfl,h.ext⟩
    | exit id => exact absurd rfl (hne id)
   ·
    exact absurd hl (bad_no w)
  ·
   exact absurd hl (bad_no w)
 ·
  exact absurd hl (bad_no w)
theorem auto0 {f : FuncId} {fn : Func} {w : World} (hf : P.funcs[f]? = some fn) (args : List Value) (q : List (Orc P w)) (v : Value)
  (chk : (autoLog P w fn (args.map SV.v) [] q v).map Prod.fst = (autoLog P w fn (args.map SV.v) [] q v).map Prod.snd) :
  Calls P f args.toArray w fun e' w' => e' = .returned v ∧ Ext w w':=by
 have h:=auto hf (args.map SV.v) [] (fun _ => 0) q v (fun i b hb => by cases hb) chk
 rw [List.map_map] at h
 have e : (SV.den fun _ => 0) ∘ SV.v = id:=rfl
 rwa [e,List.map_id] at h
end
theorem grow_calls (n : Nat) (h0 : 0 < n) (h1 : n ≤ 1048576) (w : World) :
  Calls Tryz.prog 80 #[.slice none 0 0,.int .i64 (n : Int)] w fun e w' => (∃ v,e = .returned v ∧ ∀ f,Own w' w.heap.size 5 v 0 f) ∧ Ext w w':=by
 obtain ⟨i8,hi8,hz0,hz1,hz2⟩:=info_parts infoByte
 have hr:=fun W => Lib.run_append_nil_zeros (P:=Tryz.prog) W 33 3 33 5 i8 (.int .u8 0) .i64 .i64 Tryz.underlying33 Tryz.underlying3 hi8 hz0 n h0 (by rw [hz1]; decide) (by omega) (by rw [hz2]; omega)
 have HR:=veil hr
 have hg:=grownCap_ge w n 0 5
 have hm:=grownCap_le_maxLen w n 0 5 (by unfold maxLen; omega)
 have HG:=veil (And.intro hg hm)
 have hi0 : (0 : Int) ≤ (n : Int):=by omega
 have hi1 : (0 : Int) < (n : Int):=by omega
 have hc0 : (0 : Int) ≤ (grownCap w n 0 5 : Int):=by omega
 clear hr hg hi8 hz0 hz1 hz2
 go_enter Tryz.func80,Tryz.ntmps80
 go_wp2_with (at_builtin; refine Lib.wpList_append_run _ rfl _ _ _ _ rfl _ _ rfl rfl _ _ (HR.out w) ?_)
 go_ret
 refine ⟨⟨_,rfl,fun f => ⟨by simp,.inr ⟨w.heap.size,_,_,rfl,Nat.le_refl _,zag w.drew _,Nat.zero_le _,HG.out.2,?_,by simp⟩⟩⟩,(Ext.drew w).trans (Ext.alloc _ _)⟩
 have:=HG.out.1
 simp [size_zeroCells]
 omega
def catF (f1 f2 : Nat → Value) : Nat → Value:=fun j => if j < 32 then f1 j else f2 (j - 32)
theorem concat_calls (h g1 g2 c1 c2 : Nat) (f1 f2 : Nat → Value) (o1 : ∀ j,(f1 j).oneCell' = true) (o2 : ∀ j,(f2 j).oneCell' = true) (w : World)
  (hb : w.heap[h]? = some (.cells #[.slice (some ⟨g1,0,none⟩) 32 c1,.slice (some ⟨g2,0,none⟩) 32 c2] 33 (0,0))) (hg1 : w.rowIs g1 5 32 f1) (hg2 : w.rowIs g2 5 32 f2) :
  Calls Tryz.prog 49 #[.slice (some ⟨h,0,none⟩) 2 2] w fun e w' => (∃ v,e = .returned v ∧ Own w' w.heap.size 5 v 64 (catF f1 f2)) ∧ Ext w w':=by
 obtain ⟨i8,hi8,hz0,hz1,hz2⟩:=info_parts infoByte
 have HI:=veil (And.intro hi8 (And.intro hz0 (And.intro hz1 hz2)))
 clear hi8 hz0 hz1 hz2
 have c0 : w.cell? ⟨h,0,none⟩ = some (.slice (some ⟨g1,0,none⟩) 32 c1):=cell_of_row w h 0 _ _ _ hb
 have c1' : w.cell? ⟨h,1,none⟩ = some (.slice (some ⟨g2,0,none⟩) 32 c2):=cell_of_row w h 1 _ _ _ hb
 have HB:=veil hb
 have HG1:=veil hg1
 have HG2:=veil hg2
 clear hb hg1 hg2
 go_enter Tryz.func49,Tryz.ntmps49
 go_wp2
 go_loop [3,11] (fun v3 v11 => ∃ k : Nat,k ≤ 2 ∧ v11 = .int .i64 (k : Int) ∧ v3 = .int .i64 ((32 * k : Nat) : Int)) (fun _ v11 => (2 - intOf v11).toNat)
 case atStart => exact ⟨0,by omega,rfl,rfl⟩
 case round =>
  obtain ⟨k,hk,rfl,rfl⟩:=hrel
  have hk3 : k = 0 ∨ k = 1 ∨ k = 2:=by omega
  rcases hk3 with rfl | rfl | rfl
  ·
   go_wp2
   go_round
   case rel => exact ⟨1,by omega,by go_num,by go_num⟩
   case measure => simp [intOf]
  ·
   go_wp2
   go_round
   case rel => exact ⟨2,by omega,by go_num,by go_num⟩
   case measure => simp [intOf]
  ·
   have hgr:=fun W => grow_calls 64 (by decide) (by decide) W
   have HGR:=veil hgr
   clear hgr
   go_wp2_with fail
   refine (HGR.out _).mono ?_
   rintro e w1 ⟨⟨v,rfl,hown⟩,hE⟩
   have hown:=hown (catF f1 f2)
   have hx : Ext w w1:=hE
   clear hE
   clear c0 c1'
   go_wp2
   go_loopw [6,27] (fun v6 v27 wr => ∃ k : Nat,k ≤ 2 ∧ v27 = .int .i64 (k : Int) ∧ Own wr w.heap.size 5 v6 (32 * k) (catF f1 f2) ∧ Ext w wr) (fun _ v27 _ => (2 - intOf v27).toNat)
   case atStart => exact ⟨0,by omega,rfl,hown,hx⟩
   case round =>
    clear hown hx
    obtain ⟨k,hk,rfl,hown,hx⟩:=hrel
    have b0:=hx.block HB.out
    have r1:=Ext.row HG1.out hx
    have r2:=Ext.row HG2.out hx
    have hk3 : k = 0 ∨ k = 1 ∨ k = 2:=by omega
    rcases hk3 with rfl | rfl | rfl
    ·
     have c0 : wr.cell? ⟨h,0,none⟩ = some (.slice (some ⟨g1,0,none⟩) 32 c1):=cell_of_row wr h 0 _ _ _ b0
     have hfr : From wr (some ⟨g1,0,none⟩) 32 f1:=.inr ⟨_,rfl,fun j hj => by rw [Addr.add_mid,Nat.zero_add]; exact r1.cell hj⟩
     have HF:=veil hfr
     have HO:=veil hown
     clear hfr hown b0
     go_wp2_with (at_builtin; refine zaz _ rfl _ _ _ rfl w.heap.size 5 i8 (.int .u8 0) 1 Tryz.underlying33 HI.out.1 HI.out.2.1 HI.out.2.2.1 HI.out.2.2.2 rfl _ _ _ rfl HO.out (some ⟨g1,0,none⟩) 32 c1 rfl f1 HF.out o1 (by unfold maxLen; omega) (by omega) (Below.size hx) ?_)
     intro v' w' hown' hgr hkey
     go_wp2
     go_roundw
     case rel => exact ⟨1,by omega,by go_num,hown'.congr (fun j hj => by
                                         have h3 : j < 32:=by omega
                                         simp [catF,h3]),grown_below hx hgr (Below.size hx) (fun k hk => (HO.out.lt hk).1)⟩
     case measure => simp [intOf]
    ·
     have c0 : wr.cell? ⟨h,1,none⟩ = some (.slice (some ⟨g2,0,none⟩) 32 c2):=cell_of_row wr h 1 _ _ _ b0
     have hfr : From wr (some ⟨g2,0,none⟩) 32 f2:=.inr ⟨_,rfl,fun j hj => by rw [Addr.add_mid,Nat.zero_add]; exact r2.cell hj⟩
     have HF:=veil hfr
     have HO:=veil hown
     clear hfr hown b0
     go_wp2_with (at_builtin; refine zaz _ rfl _ _ _ rfl w.heap.size 5 i8 (.int .u8 0) 1 Tryz.underlying33 HI.out.1 HI.out.2.1 HI.out.2.2.1 HI.out.2.2.2 rfl _ _ _ rfl HO.out (some ⟨g2,0,none⟩) 32 c2 rfl f2 HF.out o2 (by unfold maxLen; omega) (by omega) (Below.size hx) ?_)
     intro v' w' hown' hgr hkey
     go_wp2
     go_roundw
     case rel => exact ⟨2,by omega,by go_num,hown'.congr (fun j hj => by
                                         simp only [catF]; by_cases h3 : j < 32
                                         ·
                                          simp [h3]
                                         ·
                                          simp [h3]),grown_below hx hgr (Below.size hx) (fun k hk => (HO.out.lt hk).1)⟩
     case measure => simp [intOf]
    ·
     go_wp2
     go_ret
     exact ⟨⟨_,rfl,hown⟩,hx⟩
end Go.Proofs.YthlbemnbmbmjhaaGreatDoor
