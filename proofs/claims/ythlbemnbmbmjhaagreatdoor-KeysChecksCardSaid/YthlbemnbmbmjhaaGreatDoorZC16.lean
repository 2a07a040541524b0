/-
  Of AutB AutC Half IsH TI KN QCode LUp5 KM.
-/
import Derived.Test.YthlbemnbmbmjhaaGreatDoorRows
import Derived.WalkKit
import Derived.WalkSpells
import Derived.WalkLawsBesides
import Derived.Deep.LoopGhost
import Derived.Deep.RegionWith
import Derived.Deep.QuietTactic
import Derived.BigQuiet
import Derived.Test.YthlbemnbmbmjhaaGreatDoorZC14
import Derived.Test.YthlbemnbmbmjhaaGreatDoorZC1
import Derived.Test.YthlbemnbmbmjhaaGreatDoorZC12
import Derived.Test.YthlbemnbmbmjhaaGreatDoorZC8
import Derived.Test.YthlbemnbmbmjhaaGreatDoorZC6
import Derived.Test.YthlbemnbmbmjhaaGreatDoorZC7
set_option maxRecDepth 1000000
set_option maxHeartbeats 20000000
namespace Go.Proofs.YthlbemnbmbmjhaaGreatDoor
open Go.RowKit
open Go.Value renaming int → vI
open Go.IntKind renaming u64 → vU
open Go.Act renaming put → aP
open List renaming setIfInBounds_toArray → lA, set_cons_zero → lZ, set_cons_succ → lS
section
variable {P : Program} {w0 : World} {Q : Exit → Act → World → Prop}
theorem val_grow {s s' : Sst P w0} {o : Oper} (h : evVal s o = some s') : Grows s s':=(zir h).1
theorem zeg {s : Sst P w0} {ops : List Oper} {o : Oper} {b : Bool} {a : Act} {e : Nat → Nat} {w : World} (h : evWant s ops o = some b) (hR : Rel s a e w) : Region.wanted o (yielded ops.toArray a.tmps) = b:=by
 unfold evWant at h
 unfold Region.wanted
 cases hg : o.guard with
 | none =>
  rw [hg] at h
  simpa using h
 | some kb =>
  obtain ⟨k,b'⟩:=kb
  rw [hg] at h
  simp only at h ⊢
  split at h
  ·
   cases h
  ·
   rename_i o' ho
   split at h
   ·
    cases h
   ·
    rename_i d hd
    split at h
    ·
     rename_i c hc
     have hs:=hR.slot d
     rw [hc] at hs
     have ht : a.tmps[d]? = some (.bool c):=by
      simp only [SV.den,Array.getD_eq_getD_getElem?] at hs
      cases hx : a.tmps[d]? with
      | none => rw [hx] at hs; simp [undef] at hs
      | some y => rw [hx] at hs; simpa using hs
     have hy : yielded ops.toArray a.tmps k = some c:=by
      unfold yielded
      simp [ho,hd,ht]
     rw [hy]
     have h : (c == b') = b:=by simpa using h
     rw [← h]
     cases c <;> cases b' <;> rfl
    ·
     cases h
theorem ziq {ops : List Oper} : ∀ {l : List Oper} {s s' : Sst P w0},evVals ops l s = some s' → Grows s s'
 | [],s,s',h => by
  obtain rfl : s = s':=by simpa [evVals] using h
  exact Grows.refl _
 | o :: l,s,s',h => by
  unfold evVals at h
  split at h
  ·
   split at h
   ·
    rename_i hv
    exact (val_grow hv).trans (ziq h)
   ·
    cases h
  ·
   split at h
   ·
    rename_i hv
    exact (zen hv).trans (ziq h)
   ·
    cases h
  ·
   cases h
theorem vals_mk {ops : List Oper} {R : Act → Prop} {e : Nat → Nat} {w : World} : ∀ {l : List Oper} {s s' : Sst P w0} {a : Act},evVals ops l s = some s' → LogOk s'.g → Rel s a e w → (∀ a',Rel s' a' e w → R a') → wpMk P ops.toArray w R l a
 | [],s,s',a,h,_,hR,hK => by
  obtain rfl : s = s':=by simpa [evVals] using h
  exact hK a hR
 | o :: l,s,s',a,h,hl,hR,hK => by
  unfold evVals at h
  split at h
  ·
   rename_i hw
   split at h
   ·
    rename_i s1 hv
    obtain ⟨v,hm,hR1⟩:=(zir hv).2 ((ziq h).ok hl) hR
    exact ⟨v,.inl ⟨zeg hw hR,hm⟩,vals_mk h hl hR1 hK⟩
   ·
    cases h
  ·
   rename_i hw
   split at h
   ·
    rename_i s1 hv
    exact ⟨undef,.inr ⟨zeg hw hR,rfl⟩,vals_mk h hl (hR.put hv rfl) hK⟩
   ·
    cases h
  ·
   cases h
/-! ### memory -/
def cellsOf : SV → List SV
 | .v x => x.cells.toList.map .v
 | .p i o => [.p i o]
def okCell : SV → Bool
 | .v x => x.oneCell'
 | .p _ _ => true
def Sst.wf (s : Sst P w0) : Bool:=(s.t.all fun x => x.2.below s.m.length) && (s.m.all fun b => b.cs.all fun c => c.below s.m.length)
def Sst.new (s : Sst P w0) (o : Oper) (ty : TypeId) (cs : List Value) : Option (Sst P w0) :=
 bif s.wf && Nat.ble s.x s.m.length then
  ({ s with m:=s.m ++ [Blk.mk ty (cs.map SV.v)] }.log (evR s o) (fun _ W => .ok (.value (.pointer (some ⟨W.heap.size,0,none⟩))) (W.alloc (.cells cs.toArray ty)))).put o.dst (.p s.m.length 0)
 else none
def evMem (s : Sst P w0) (o : Oper) : Option (Sst P w0) :=
 match o.op with
 | .alloc ty => match P.info? ty with
  | some inf => match inf.zero with
   | some z => s.new o ty z.cells.toList
   | none => none
  | none => none
 | .box ty x => match evX s x with
  | .v val => s.new o ty val.cells.toList
  | .p _ _ => none
 | .store ty x y => match evX s x with
  | .p i off => match s.m[i]?,P.info? ty with
   | some b,some inf =>
    bif Nat.ble s.x i && (Nat.beq (cellsOf (evX s y)).length inf.size && (Nat.ble (off + (cellsOf (evX s y)).length) b.cs.length && (cellsOf (evX s y)).all okCell)) then
     { s with m:=s.m.set i ⟨b.ty,b.cs.take off ++ (cellsOf (evX s y) ++ b.cs.drop (off + (cellsOf (evX s y)).length))⟩ }.put o.dst (.v undef)
    else none
   | _,_ => none
  | .v _ => none
 | _ => none
def isMem (o : Oper) : Bool:=match o.op with
 | .alloc _ | .box _ _ | .store _ _ _ => true
 | _ => false
def isStore (o : Oper) : Bool:=match o.op with
 | .store _ _ _ => true
 | _ => false
def evStep (s : Sst P w0) (o : Oper) : Option (Sst P w0):=bif isMem o then evMem s o else evVal s o
def evOps (ops : List Oper) : List Oper → Sst P w0 → Option (Sst P w0)
 | [],s => some s
 | o :: l,s => match evWant s ops o with
  | some true => match evStep s o with
   | some s1 => evOps ops l s1
   | none => none
  | some false => match s.put o.dst (.v undef) with
   | some s1 => evOps ops l s1
   | none => none
  | none => none
theorem cells_off {g k : Nat} (hne : k ≠ g) : ∀ (vs : List Value) (o : Nat) (w : World),(w.setCells g o vs).heap[k]? = w.heap[k]?
 | [],_,_ => rfl
 | _ :: r,o,_ => (cells_off hne r (o + 1) _).trans (Below.heap_setCell _ _ _ _ hne)
theorem cells_ext {w : World} {g : Nat} : ∀ (vs : List Value) (o : Nat) {W : World},Ext w W → w.heap.size ≤ g → Ext w (W.setCells g o vs)
 | [],_,_,h,_ => h
 | v :: r,o,_,h,hg => cells_ext r (o + 1) (zaq h hg v) hg
theorem row_of_blk {w : World} {g t : Nat} {C : Array Value} (h : w.heap[g]? = some (.cells C t (0,0))) : w.rowIs g t C.size (fun i => C.getD i undef) :=
 ⟨C,h,rfl,fun i hi => by simp [hi]⟩
theorem cells_on {w : World} {g t o : Nat} {C : List Value} {vs : List Value} (h : w.heap[g]? = some (.cells C.toArray t (0,0))) (ho : o + vs.length ≤ C.length) :
  (w.setCells g o vs).heap[g]? = some (.cells (C.take o ++ (vs ++ C.drop (o + vs.length))).toArray t (0,0)):=by
 rw [blkOf (zhd vs o w _ (row_of_blk h))]
 congr 2
 refine (eq_arrOf ?_ fun i hi => ?_).symm
 ·
  simp; omega
 ·
  have hi' : i < C.length:=by simpa using hi
  by_cases h1 : i < o
  ·
   rw [if_neg (by omega)]
   simp [h1,hi',List.getElem?_append]
   omega
  ·
   by_cases h2 : i < o + vs.length
   ·
    rw [if_pos ⟨by omega,h2⟩]
    have h3 : i - o < vs.length:=by omega
    simp [List.getElem?_append,h1,h3,List.getD_eq_getElem?_getD,show min o C.length = o by omega]
   ·
    rw [if_neg (by omega)]
    simp [List.getElem?_append,h1,hi',show min o C.length = o by omega,show ¬ i - o < vs.length by omega,List.getElem?_drop,show o + vs.length + (i - o - vs.length) = i by omega]
theorem there_blk {w : World} {g t o n : Nat} {C : Array Value} (h : w.heap[g]? = some (.cells C t (0,0))) (ho : o + n ≤ C.size) : w.there g o n:=fun j hj => by
 have r:=row_of_blk h
 exact ⟨by rw [r.cell (show o + j < C.size by omega)]; rfl,r.frozen _⟩
theorem cellsOf_den {e : Nat → Nat} : ∀ (x : SV),(cellsOf x).map (SV.den e) = (x.den e).cells.toList
 | .v x => by simp [cellsOf,SV.den,Function.comp_def]
 | .p i o => rfl
theorem okCell_den {e : Nat → Nat} : ∀ {x : SV},okCell x = true → (x.den e).oneCell' = true
 | .v _,h => h
 | .p _ _,_ => rfl
def upE (e : Nat → Nat) (k g : Nat) : Nat → Nat:=fun j => if j = k then g else e j
theorem lookS_below {k : Nat} : ∀ {l : List (Nat × SV)} {i : Nat},(∀ x ∈ l,x.2.below k = true) → (lookS l i).below k = true
 | [],_,_ => rfl
 | x :: r,i,h => by
  show (lookS ((x.1,x.2) :: r) i).below _ = true
  rw [zjs]
  split
  ·
   exact h _ List.mem_cons_self
  ·
   exact lookS_below fun y hy => h y (List.mem_cons_of_mem _ hy)
theorem rel_add {s : Sst P w0} {a : Act} {e : Nat → Nat} {w : World} {g : Nat} {b : Blk} (hR : Rel s a e w) (hwf : s.wf = true) (hg : w.heap[g]? = some (b.obj (upE e s.m.length g))) (ho : w0.heap.size ≤ g) (hne : ∀ i,i < s.m.length → e i ≠ g) :
  Rel { s with m:=s.m ++ [b] } a (upE e s.m.length g) w:=by
 unfold Sst.wf at hwf
 rw [Bool.and_eq_true,List.all_eq_true,List.all_eq_true] at hwf
 have hlow : ∀ i,i < s.m.length → upE e s.m.length g i = e i:=fun i hi => if_neg (by omega)
 have hnew : upE e s.m.length g s.m.length = g:=if_pos rfl
 refine ⟨hR.size,hR.defers,fun i => ?_,fun i b' hb => ?_,fun i h1 h2 => ?_,fun i j h1 h2 h3 h4 => ?_,hR.ext⟩
 ·
  rw [hR.slot i]
  exact (den_env hlow (lookS_below hwf.1)).symm
 ·
  have hb : (s.m ++ [b])[i]? = some b':=hb
  by_cases hi : i < s.m.length
  ·
   rw [List.getElem?_append_left hi] at hb
   rw [hlow i hi,hR.blk i b' hb]
   unfold Blk.obj
   congr 3
   refine List.map_congr_left fun c hc => ?_
   have:=List.all_eq_true.1 (hwf.2 b' (List.mem_of_getElem? hb)) c hc
   exact (den_env hlow this).symm
  ·
   rw [List.getElem?_append_right (by omega)] at hb
   have hi0 : i - s.m.length = 0:=by
    have:=(List.getElem?_eq_some_iff.1 hb).1
    simpa using this
   rw [hi0] at hb
   obtain rfl : b = b':=by simpa using hb
   obtain rfl : i = s.m.length:=by omega
   rw [hnew]
   exact hg
 ·
  have h2 : i < s.m.length + 1:=by simpa using h2
  by_cases hi : i < s.m.length
  ·
   rw [hlow i hi]; exact hR.own i h1 hi
  ·
   obtain rfl : i = s.m.length:=by omega
   rw [hnew]; exact ho
 ·
  have h2 : i < s.m.length + 1:=by simpa using h2
  have h3 : j < s.m.length + 1:=by simpa using h3
  by_cases hi : i < s.m.length
  ·
   by_cases hj : j < s.m.length
   ·
    rw [hlow i hi,hlow j hj]; exact hR.far i j h1 hi hj h4
   ·
    obtain rfl : j = s.m.length:=by omega
    rw [hlow i hi,hnew]
    exact hne i hi
  ·
   obtain rfl : i = s.m.length:=by omega
   have hj : j < s.m.length:=by omega
   rw [hlow j hj,hnew]
   exact (hne j hj).symm
theorem obj_vals (e : Nat → Nat) (ty : TypeId) (cs : List Value) : (Blk.mk ty (cs.map SV.v)).obj e = .cells cs.toArray ty (0,0):=by
 unfold Blk.obj
 simp [Function.comp_def,SV.den]
theorem new_cut {s s' : Sst P w0} {o : Oper} {ty : TypeId} {cs : List Value} (hs : s.new o ty cs = some s') : s.wf = true ∧ s.x ≤ s.m.length ∧
  ({ s with m:=s.m ++ [Blk.mk ty (cs.map SV.v)] }.log (evR s o) (fun _ W => .ok (.value (.pointer (some ⟨W.heap.size,0,none⟩))) (W.alloc (.cells cs.toArray ty)))).put o.dst (.p s.m.length 0) = some s':=by
 unfold Sst.new at hs
 cases hw : (s.wf && Nat.ble s.x s.m.length) with
 | false => rw [hw] at hs; cases hs
 | true =>
  rw [hw] at hs
  rw [Bool.and_eq_true] at hw
  exact ⟨hw.1,Nat.le_of_ble_eq_true hw.2,hs⟩
theorem new_rel {s s' : Sst P w0} {o : Oper} {ty : TypeId} {cs : List Value} (hs : s.new o ty cs = some s') {a : Act} {e : Nat → Nat} {w : World} {g : Nat} (hR : Rel s a e w) (hg : w.heap[g]? = some (.cells cs.toArray ty (0,0))) (ho : w0.heap.size ≤ g) (hne : ∀ i,i < s.m.length → e i ≠ g) :
  Rel s' (a.put o.dst (.pointer (some ⟨g,0,none⟩))) (upE e s.m.length g) w:=by
 obtain ⟨hwf,_,hp⟩:=new_cut hs
 have h:=rel_add (b:=Blk.mk ty (cs.map SV.v)) hR hwf (by rw [obj_vals]; exact hg) ho hne
 exact (h.q s.q _).put hp (by show Value.pointer (some ⟨upE e s.m.length g s.m.length,0,none⟩) = _; rw [show upE e s.m.length g s.m.length = g from if_pos rfl])
theorem blk_lt {s : Sst P w0} {a : Act} {e : Nat → Nat} {w : World} (hR : Rel s a e w) {i : Nat} (hi : i < s.m.length) : e i < w.heap.size:=(Array.getElem?_eq_some_iff.1 (hR.blk i _ (List.getElem?_eq_getElem hi))).1
theorem zgu {s s' : Sst P w0} {o : Oper} {ty : TypeId} {cs : List Value} (hs : s.new o ty cs = some s') : Grows s s' ∧ (LogOk s'.g → ∀ {a e w},Rel s a e w → ∀ K : Act → World → Prop,(∀ a' e' w',Rel s' a' e' w' → Ext w w' → K a' w') → o.wp P a w K Q):=by
 obtain ⟨_,_,hp⟩:=new_cut hs
 have hg:=put_g hp
 refine ⟨⟨[_],hg.1⟩,fun hl a e w hR K hK => ?_⟩
 have hrun:=congrFun (congrFun (hl _ (by rw [hg.1]; exact List.mem_cons_self)) e) w
 unfold Oper.wp
 rw [hR.exec,show evR s o e w = _ from hrun,Oper.upon_value]
 have hE:=Ext.alloc w (.cells cs.toArray ty)
 exact hK _ _ _ (new_rel hs (hR.more hE) (zar _ _) (Below.size hR.ext) fun i hi => by have:=blk_lt hR hi; omega) hE
theorem mem_sound {s s' : Sst P w0} {o : Oper} (hs : evMem s o = some s') : Grows s s' ∧ (LogOk s'.g → ∀ {a e w},Rel s a e w → ∀ K : Act → World → Prop,(∀ a' e' w',Rel s' a' e' w' → (isStore o = false → Ext w w') → K a' w') → o.wp P a w K Q):=by
 unfold evMem at hs
 split at hs
 ·
  split at hs
  ·
   split at hs
   ·
    exact ⟨(zgu (Q:=Q) hs).1,fun hl a e w hR K hK => (zgu hs).2 hl hR K fun a' e' w' h1 h2 => hK a' e' w' h1 fun _ => h2⟩
   ·
    cases hs
  ·
   cases hs
 ·
  split at hs
  ·
   exact ⟨(zgu (Q:=Q) hs).1,fun hl a e w hR K hK => (zgu hs).2 hl hR K fun a' e' w' h1 h2 => hK a' e' w' h1 fun _ => h2⟩
  ·
   cases hs
 ·
  rename_i ty x y ho
  split at hs
  ·
   rename_i i off hx
   split at hs
   ·
    rename_i b inf hb hi
    obtain ⟨cs,hcs⟩ : ∃ cs,cs = cellsOf (evX s y):=⟨_,rfl⟩
    rw [← hcs] at hs
    cases hc : (Nat.ble s.x i && (Nat.beq cs.length inf.size && (Nat.ble (off + cs.length) b.cs.length && cs.all okCell))) with
    | false => rw [hc] at hs; cases hs
    | true =>
     rw [hc] at hs
     simp only [cond_true] at hs
     simp only [Bool.and_eq_true] at hc
     obtain ⟨c1,c2,c3,c4⟩:=hc
     have c1:=Nat.le_of_ble_eq_true c1
     have c2:=Nat.eq_of_beq_eq_true c2
     have c3:=Nat.le_of_ble_eq_true c3
     refine ⟨⟨[],(put_g hs).1⟩,fun _ a e w hR K hK => ?_⟩
     have hst : isStore o = true:=by unfold isStore; rw [ho]
     have hblk:=hR.blk i b hb
     have hil : i < s.m.length:=(List.getElem?_eq_some_iff.1 hb).1
     have hden:=cellsOf_den (e:=e) (evX s y)
     rw [← hcs] at hden
     have hlen : ((evX s y).den e).cells.size = cs.length:=by
      have:=congrArg List.length hden
      simpa using this.symm
     have hrun:=run_storeAt_mid (P:=P) w (e i) off ty ((evX s y).den e).cells (there_blk hblk (by rw [hlen]; simpa using c3)) (by rw [hi,hlen,c2]; rfl) (by
      rw [← Array.all_toList,← hden,List.all_map]
      exact List.all_eq_true.2 fun c hc => okCell_den (List.all_eq_true.1 c4 c hc))
     have hrun2 : (execOp a.eval o).run P w = .ok .skip (w.setCells (e i) off ((evX s y).den e).cells.toList):=by
      have hxa : a.eval x = .pointer (some ⟨e i,off,none⟩):=by rw [hR.eval]; show (evX s x).den e = _; rw [hx]; rfl
      have hya : a.eval y = (evX s y).den e:=by rw [hR.eval]
      unfold execOp
      simp only [ho,hxa,hya,Sem.run_bind]
      rw [show Instr.storeAt ty (.pointer (some ⟨e i,off,none⟩)) ((evX s y).den e) = Instr.storeAt ty (.pointer (some ⟨e i,off,none⟩)) (.agg ((evX s y).den e).cells) from rfl,hrun]
      simp
     unfold Oper.wp
     rw [hrun2,Oper.upon_skip]
     rw [← hden]
     have hown:=hR.own i c1 hil
     have hR2 : Rel { s with m:=s.m.set i ⟨b.ty,b.cs.take off ++ (cs ++ b.cs.drop (off + cs.length))⟩ } a e (w.setCells (e i) off (cs.map (SV.den e))):=by
      refine ⟨hR.size,hR.defers,hR.slot,fun j b' hb' => ?_,fun j h1 h2 => hR.own j h1 (by simpa using h2),fun j k h1 h2 h3 h4 => hR.far j k h1 (by simpa using h2) (by simpa using h3) h4,cells_ext _ _ hR.ext hown⟩
      have hb' : (s.m.set i ⟨b.ty,b.cs.take off ++ (cs ++ b.cs.drop (off + cs.length))⟩)[j]? = some b':=hb'
      by_cases hj : j = i
      ·
       subst hj
       rw [List.getElem?_set_self hil] at hb'
       obtain rfl:=Option.some.inj hb'
       unfold Blk.obj at hblk ⊢
       rw [cells_on hblk (by simpa using c3)]
       simp only [List.map_append,List.map_take,List.map_drop,List.length_map]
      ·
       rw [List.getElem?_set_ne (Ne.symm hj)] at hb'
       have hjl : j < s.m.length:=(List.getElem?_eq_some_iff.1 hb').1
       rw [cells_off (fun h => hR.far i j c1 hil hjl (Ne.symm hj) h.symm)]
       exact hR.blk j b' hb'
     exact hK _ e _ (hR2.put hs rfl) fun h => by rw [hst] at h; cases h
   ·
    cases hs
  ·
   cases hs
 ·
  cases hs
theorem zjm {s s' : Sst P w0} {o : Oper} (hs : evStep s o = some s') : Grows s s' ∧ (LogOk s'.g → ∀ {a e w},Rel s a e w → ∀ K : Act → World → Prop,(∀ a' e' w',Rel s' a' e' w' → (isStore o = false → Ext w w') → K a' w') → o.wp P a w K Q):=by
 unfold evStep at hs
 cases hm : isMem o with
 | true =>
  rw [hm] at hs
  exact mem_sound hs
 | false =>
  rw [hm] at hs
  refine ⟨(zir hs).1,fun hl a e w hR K hK => ?_⟩
  obtain ⟨v,hmd,hR1⟩:=(zir hs).2 hl hR
  exact hmd.wp (Ext.refl w) fun W' hW' => hK _ e W' (hR1.more hW') fun _ => hW'
theorem zfe {ops : List Oper} : ∀ {l : List Oper} {s s' : Sst P w0},evOps ops l s = some s' → Grows s s'
 | [],s,s',h => by
  obtain rfl : s = s':=by simpa [evOps] using h
  exact Grows.refl _
 | o :: l,s,s',h => by
  unfold evOps at h
  split at h
  ·
   split at h
   ·
    rename_i hv
    exact (zjm (Q:=fun _ _ _ => True) hv).1.trans (zfe h)
   ·
    cases h
  ·
   split at h
   ·
    rename_i hv
    exact (zen hv).trans (zfe h)
   ·
    cases h
  ·
   cases h
theorem ops_wp {ops : List Oper} : ∀ {l : List Oper} {s s' : Sst P w0} {a : Act} {e : Nat → Nat} {w : World},evOps ops l s = some s' → LogOk s'.g → Rel s a e w → (∀ a' e' w',Rel s' a' e' w' → Q .normal a' w') → wpList P ops.toArray Q l a w
 | [],s,s',a,e,w,h,_,hR,hK => by
  obtain rfl : s = s':=by simpa [evOps] using h
  exact wpList_nil (hK a e w hR)
 | o :: l,s,s',a,e,w,h,hl,hR,hK => by
  unfold evOps at h
  refine wpList_step fun K hK' => ?_
  split at h
  ·
   rename_i hw
   rw [if_pos (zeg hw hR)]
   split at h
   ·
    rename_i s1 hv
    exact (zjm hv).2 ((zfe h).ok hl) hR K fun a' e' w' h1 _ => hK' _ _ (ops_wp h hl h1 hK)
   ·
    cases h
  ·
   rename_i hw
   rw [if_neg (by rw [zeg hw hR]; exact Bool.false_ne_true)]
   split at h
   ·
    rename_i s1 hv
    exact hK' _ _ (ops_wp h hl (hR.put hv rfl) hK)
   ·
    cases h
  ·
   cases h
/-! ### a region that draws its order: values in whatever order,then what can come but one by one -/
def isAlloc (o : Oper) : Bool:=match o.op with
 | .alloc _ => true
 | _ => false
def oneB (ops : List Oper) (n k : Nat) (listed : Array Bool) : Bool:=decide (Region.ready .any ops.toArray listed = [k]) && (match ops[k]? with
  | some o => Nat.ble n k || !isStore o
  | none => false)
def pairB (ops : List Oper) (k : Nat) (listed : Array Bool) : Bool :=
 decide (Region.ready .any ops.toArray listed = [k,k + 1]) && (decide (Region.ready .any ops.toArray (listed.setIfInBounds k true) = [k + 1]) && (decide (Region.ready .any ops.toArray (listed.setIfInBounds (k + 1) true) = [k]) &&
  (match ops[k]?,ops[k + 1]? with
  | some o,some o' => isAlloc o && (isAlloc o' && (o.guard.isNone && (o'.guard.isNone && (o.dst.isSome && decide (o.dst ≠ o'.dst)))))
  | _,_ => false)))
def tailB (ops : List Oper) (n : Nat) : Nat → Nat → Array Bool → Bool
 | 0,_,listed => decide (Region.ready .any ops.toArray listed = [])
 | 1,k,listed => oneB ops n k listed && decide (Region.ready .any ops.toArray (listed.setIfInBounds k true) = [])
 | f + 2,k,listed => (oneB ops n k listed && tailB ops n (f + 1) (k + 1) (listed.setIfInBounds k true)) || (pairB ops k listed && tailB ops n f (k + 2) ((listed.setIfInBounds k true).setIfInBounds (k + 1) true))
theorem alloc_step {s s' : Sst P w0} {o : Oper} (ha : isAlloc o = true) (hs : evStep s o = some s') : ∃ ty cs,o.op = .alloc ty ∧ s.new o ty cs = some s':=by
 unfold isAlloc at ha
 split at ha
 ·
  rename_i ty ho
  have hm : isMem o = true:=by unfold isMem; rw [ho]
  unfold evStep at hs
  rw [hm] at hs
  simp only [cond_true] at hs
  unfold evMem at hs
  rw [ho] at hs
  simp only at hs
  split at hs
  ·
   split at hs
   ·
    exact ⟨ty,_,ho,hs⟩
   ·
    cases hs
  ·
   cases hs
 ·
  cases ha
theorem alloc_run {s s' : Sst P w0} {o : Oper} {ty : TypeId} {cs : List Value} (ho : o.op = .alloc ty) (hs : s.new o ty cs = some s') (hl : LogOk s'.g) (a : Act) (W : World) : (execOp a.eval o).run P W = .ok (.value (.pointer (some ⟨W.heap.size,0,none⟩))) (W.alloc (.cells cs.toArray ty)):=by
 obtain ⟨_,_,hp⟩:=new_cut hs
 have hrun:=congrFun (congrFun (hl _ (by rw [(put_g hp).1]; exact List.mem_cons_self)) fun _ => 0) W
 have e : execOp a.eval o = execOp (fun x => (evX s x).den fun _ => 0) o:=by
  unfold execOp
  simp only [ho]
 rw [e]
 exact hrun
theorem one_wp {ops : List Oper} {n k : Nat} {listed : Array Bool} {l : List Oper} {o : Oper} {s s' : Sst P w0} {a : Act} {e : Nat → Nat} {w : World} (ho : ops[k]? = some o) (hB : oneB ops n k listed = true) (h : evOps ops (o :: l) s = some s') (hl : LogOk s'.g) (hR : Rel s a e w)
  (hnext : ∀ {s1 : Sst P w0} {a' e' w'},evOps ops l s1 = some s' → Rel s1 a' e' w' → wpG P .any ops.toArray Q n l.length (listed.setIfInBounds k true) a' w') : wpG P .any ops.toArray Q n (o :: l).length listed a w:=by
 unfold oneB at hB
 rw [ho] at hB
 simp only [Bool.and_eq_true,decide_eq_true_eq] at hB
 obtain ⟨hr,hn⟩:=hB
 refine ⟨fun h0 => (by rw [hr] at h0; cases h0),fun i hi W hW => ?_⟩
 rw [hr] at hi
 obtain rfl : i = k:=by simpa using hi
 have hRW:=hR.more hW
 have hkeep : i < n → isStore o = false:=fun hlt => by
  cases hs : isStore o with
  | false => rfl
  | true =>
   rw [hs] at hn
   have : n ≤ i:=by simpa using hn
   omega
 unfold evOps at h
 refine wpOp_step (by simpa using ho) fun K hK' => ?_
 split at h
 ·
  rename_i hw
  rw [if_pos (zeg hw hRW)]
  split at h
  ·
   rename_i s1 hv
   exact (zjm hv).2 ((zfe h).ok hl) hRW K fun a' e' w' h1 h2 => hK' _ _ ⟨fun hlt => h2 (hkeep hlt),hnext h h1⟩
  ·
   cases h
 ·
  rename_i hw
  rw [if_neg (by rw [zeg hw hRW]; exact Bool.false_ne_true)]
  split at h
  ·
   rename_i s1 hv
   exact hK' _ _ ⟨fun _ => Ext.refl _,hnext h (hRW.put hv rfl)⟩
  ·
   cases h
 ·
  cases h
theorem zkx {ops l : List Oper} {k : Nat} {o : Oper} (hd : ops.drop k = o :: l) : ops[k]? = some o ∧ ops.drop (k + 1) = l:=by
 have h1:=congrArg (fun x => x[0]?) hd
 have h2:=congrArg (fun x => x.drop 1) hd
 exact ⟨by simpa using h1,by simpa [List.drop_drop] using h2⟩
theorem plain_op {ops : List Oper} {o : Oper} {l : List Oper} {s s' : Sst P w0} (hg : o.guard.isNone = true) (h : evOps ops (o :: l) s = some s') : ∃ s1,evStep s o = some s1 ∧ evOps ops l s1 = some s':=by
 unfold evOps at h
 have hw : evWant s ops o = some true:=by
  unfold evWant
  rw [Option.isNone_iff_eq_none.1 hg]
 rw [hw] at h
 simp only at h
 split at h
 ·
  rename_i s1 hv
  exact ⟨s1,hv,h⟩
 ·
  cases h
theorem zmc {o : Oper} {ty : TypeId} {cs : List Value} {s s' : Sst P w0} (ho : o.op = .alloc ty) (hs : s.new o ty cs = some s') (hl : LogOk s'.g) {a : Act} {W : World} {K : Act → World → Prop} (h : K (a.put o.dst (.pointer (some ⟨W.heap.size,0,none⟩))) (W.alloc (.cells cs.toArray ty))) : o.wp P a W K Q:=by
 unfold Oper.wp
 rw [alloc_run ho hs hl a W,Oper.upon_value]
 exact h
theorem tail_wp {ops : List Oper} {n : Nat} : ∀ {l : List Oper} {k : Nat} {listed : Array Bool} {s s' : Sst P w0} {a : Act} {e : Nat → Nat} {w : World},ops.drop k = l → tailB ops n l.length k listed = true → evOps ops l s = some s' → LogOk s'.g → Rel s a e w →
  (∀ a' e' w',Rel s' a' e' w' → Q .normal a' w') → wpG P .any ops.toArray Q n l.length listed a w
 | [],k,listed,s,s',a,e,w,_,hB,h,_,hR,hK => by
  obtain rfl : s = s':=by simpa [evOps] using h
  exact ⟨of_decide_eq_true hB,fun W hW => hK a e W (hR.more hW)⟩
 | [o],k,listed,s,s',a,e,w,hd,hB,h,hl,hR,hK => by
  have hB : (oneB ops n k listed && decide (Region.ready .any ops.toArray (listed.setIfInBounds k true) = [])) = true:=hB
  rw [Bool.and_eq_true] at hB
  exact one_wp (zkx hd).1 hB.1 h hl hR fun h1 hR1 => tail_wp (l:=[]) (zkx hd).2 hB.2 h1 hl hR1 hK
 | o :: o' :: l,k,listed,s,s',a,e,w,hd,hB,h,hl,hR,hK => by
  have hB : ((oneB ops n k listed && tailB ops n (l.length + 1) (k + 1) (listed.setIfInBounds k true)) || (pairB ops k listed && tailB ops n l.length (k + 2) ((listed.setIfInBounds k true).setIfInBounds (k + 1) true))) = true:=hB
  obtain ⟨ho,hd'⟩:=zkx hd
  obtain ⟨ho',hd''⟩:=zkx hd'
  rw [Bool.or_eq_true,Bool.and_eq_true,Bool.and_eq_true] at hB
  rcases hB with ⟨h1,h2⟩ | ⟨h1,h2⟩
  ·
   exact one_wp ho h1 h hl hR fun h3 hR1 => tail_wp (l:=o' :: l) hd' h2 h3 hl hR1 hK
  ·
   unfold pairB at h1
   rw [ho,ho'] at h1
   simp only [Bool.and_eq_true,decide_eq_true_eq] at h1
   obtain ⟨r1,r2,r3,ha,ha',hg,hg',hsome,hne⟩:=h1
   obtain ⟨s1,hs1,h⟩:=plain_op hg h
   obtain ⟨s2,hs2,h⟩:=plain_op hg' h
   obtain ⟨ty,cs,hty,hn1⟩:=alloc_step ha hs1
   obtain ⟨ty',cs',hty',hn2⟩:=alloc_step ha' hs2
   have hl2:=(zfe h).ok hl
   have hl1:=(zgu (Q:=Q) hn2).1.ok hl2
   have hm1 : s1.m = s.m ++ [Blk.mk ty (cs.map SV.v)]:=(put_g (new_cut hn1).2.2).2.1
   have fin : ∀ {g g' : Nat} {W : World},Ext w W → W.heap[g]? = some (.cells cs.toArray ty (0,0)) → W.heap[g']? = some (.cells cs'.toArray ty' (0,0)) → w.heap.size ≤ g → w.heap.size ≤ g' → g ≠ g' →
     wpG P .any ops.toArray Q n l.length ((listed.setIfInBounds k true).setIfInBounds (k + 1) true) ((a.put o.dst (.pointer (some ⟨g,0,none⟩))).put o'.dst (.pointer (some ⟨g',0,none⟩))) W:=fun {g g' W} hW b1 b2 g1 g2 gn => by
    have hw0:=Below.size hR.ext
    have R1:=new_rel hn1 (hR.more hW) b1 (Nat.le_trans hw0 g1) fun i hi => by have:=blk_lt hR hi; omega
    have R2:=new_rel hn2 R1 b2 (Nat.le_trans hw0 g2) fun i hi => by
     rw [hm1,List.length_append] at hi
     unfold upE
     by_cases hil : i = s.m.length
     ·
      rw [if_pos hil]; exact gn
     ·
      rw [if_neg hil]
      have:=blk_lt hR (show i < s.m.length by simp only [List.length_cons,List.length_nil] at hi; omega)
      omega
    exact tail_wp hd'' h2 h hl R2 hK
   refine ⟨fun h0 => (by rw [r1] at h0; cases h0),fun i hi W hW => ?_⟩
   rw [r1] at hi
   have hi2 : i = k ∨ i = k + 1:=by simpa using hi
   rcases hi2 with rfl | rfl
   ·
    refine zbj (by simpa using ho) (Option.isNone_iff_eq_none.1 hg) (zmc hty hn1 hl1 ⟨fun _ => Ext.alloc _ _,?_⟩)
    refine ⟨fun h0 => (by rw [r2] at h0; cases h0),fun j hj W1 hW1 => ?_⟩
    rw [r2] at hj
    obtain rfl : j = i + 1:=by simpa using hj
    refine zbj (by simpa using ho') (Option.isNone_iff_eq_none.1 hg') (zmc hty' hn2 hl2 ⟨fun _ => Ext.alloc _ _,?_⟩)
    have z1:=Below.size hW
    have z2:=Below.size hW1
    simp only [World.size_alloc] at z2
    exact fin ((hW.trans (Ext.alloc _ _)).trans (hW1.trans (Ext.alloc _ _))) ((hW1.trans (Ext.alloc _ _)).block (zar _ _)) (zar _ _) z1 (by omega) (by omega)
   ·
    refine zbj (by simpa using ho') (Option.isNone_iff_eq_none.1 hg') (zmc hty' hn2 hl2 ⟨fun _ => Ext.alloc _ _,?_⟩)
    refine ⟨fun h0 => (by rw [r3] at h0; cases h0),fun j hj W1 hW1 => ?_⟩
    rw [r3] at hj
    obtain rfl : j = k:=by simpa using hj
    refine zbj (by simpa using ho) (Option.isNone_iff_eq_none.1 hg) (zmc hty hn1 hl1 ⟨fun _ => Ext.alloc _ _,?_⟩)
    have z1:=Below.size hW
    have z2:=Below.size hW1
    simp only [World.size_alloc] at z2
    rw [Array.setIfInBounds_comm _ _ (by omega),Act.put_comm a _ _ (fun d h0 h1 => hne (by rw [h0,h1]))]
    exact fin ((hW.trans (Ext.alloc _ _)).trans (hW1.trans (Ext.alloc _ _))) (zar _ _) ((hW1.trans (Ext.alloc _ _)).block (zar _ _)) (by omega) z1 (by omega)
def evDraw (ops : List Oper) (s : Sst P w0) : Option (Sst P w0) :=
 let m:=(ops.takeWhile fun o => !isMem o).length
 let n:=(ops.takeWhile fun o => !isStore o).length
 bif P.follows .mixedOrders && (madeB ops m n && tailB ops n (ops.drop m).length m (marked m 0 (Array.replicate ops.length false))) then
  match evVals ops (ops.take m) s with
  | some s1 => evOps ops (ops.drop m) s1
  | none => none
 else none
theorem draw_grow {ops : List Oper} {s s' : Sst P w0} (h : evDraw ops s = some s') : Grows s s':=by
 unfold evDraw at h
 simp only at h
 generalize (P.follows .mixedOrders && _) = c at h
 cases c with
 | false => cases h
 | true =>
  simp only [cond_true] at h
  split at h
  ·
   rename_i hv
   exact (ziq hv).trans (zfe h)
  ·
   cases h
theorem draw_wp {id : Nat} {ops : List Oper} {s s' : Sst P w0} {a : Act} {e : Nat → Nat} {w : World} (h : evDraw ops s = some s') (hl : LogOk s'.g) (hR : Rel s a e w) (hK : ∀ a' e' w',Rel s' a' e' w' → Q .normal a' w') : (Code.region id ops.toArray true).wp P Q a w:=by
 unfold evDraw at h
 simp only at h
 obtain ⟨m,hm⟩ : ∃ m,m = (ops.takeWhile fun o => !isMem o).length:=⟨_,rfl⟩
 obtain ⟨n,hn⟩ : ∃ n,n = (ops.takeWhile fun o => !isStore o).length:=⟨_,rfl⟩
 rw [← hm,← hn] at h
 cases hc : (P.follows .mixedOrders && (madeB ops m n && tailB ops n (ops.drop m).length m (marked m 0 (Array.replicate ops.length false)))) with
 | false => rw [hc] at h; cases h
 | true =>
  rw [hc] at h
  simp only [cond_true] at h
  simp only [Bool.and_eq_true] at hc
  split at h
  ·
   rename_i s1 hv
   refine wp_region_noPanic (zft n hc.1 hc.2.1 (fun _ _ _ _ _ h => h) (vals_mk hv ((zfe h).ok hl) hR fun a' h1 => ?_))
   unfold Rest
   have:=tail_wp (Q:=NoPanic Q) rfl hc.2.2 h hl h1 fun a2 e2 w2 h2 => hK a2 e2 w2 h2
   rwa [List.length_drop] at this
  ·
   cases h
/-! ### code -/
inductive Xt where
 | normal
 | exit (id : Nat)
 | ret
def Xt.to : Xt → Exit
 | .normal => .normal
 | .exit id => .exit id
 | .ret => .ret
def evC : Code → Sst P w0 → Option (Xt × Sst P w0)
 | .skip,s => some (.normal,s)
 | .label _,s => some (.normal,s)
 | .region _ ops draw,s => (bif draw then evDraw ops.toList s else evOps ops.toList ops.toList s).map fun s => (.normal,s)
 | .seq a b,s => match evC a s with
  | some (.normal,s1) => evC b s1
  | r => r
 | .cond c a b,s => match evX s c with
  | .v (.bool true) => evC a s
  | .v (.bool false) => evC b s
  | _ => none
 | .block id c,s => match evC c s with
  | some (.exit j,s1) => bif Nat.beq j id then some (.normal,s1) else some (.exit j,s1)
  | r => r
 | .scope c,s => evC c s
 | .exit id,s => some (.exit id,s)
 | .ret,s => some (.ret,s)
 | _,_ => none
theorem zgm : ∀ {c : Code} {s s' : Sst P w0} {x : Xt},evC c s = some (x,s') → Grows s s'
 | .skip,s,s',x,h => by
  obtain ⟨_,rfl⟩ : _ ∧ s = s':=by simpa [evC] using h
  exact Grows.refl _
 | .label _,s,s',x,h => by
  obtain ⟨_,rfl⟩ : _ ∧ s = s':=by simpa [evC] using h
  exact Grows.refl _
 | .region _ ops draw,s,s',x,h => by
  unfold evC at h
  rw [Option.map_eq_some_iff] at h
  obtain ⟨s1,h,he⟩:=h
  obtain ⟨_,rfl⟩:=Prod.mk.injEq .. ▸ he
  cases draw with
  | true => exact draw_grow h
  | false => exact zfe h
 | .seq a b,s,s',x,h => by
  unfold evC at h
  split at h
  ·
   rename_i s1 ha
   exact (zgm ha).trans (zgm h)
  ·
   exact zgm h
 | .cond c a b,s,s',x,h => by
  unfold evC at h
  split at h
  ·
   exact zgm h
  ·
   exact zgm h
  ·
   cases h
 | .block id c,s,s',x,h => by
  unfold evC at h
  split at h
  ·
   rename_i j s1 hc
   cases hj : Nat.beq j id with
   | true =>
    rw [hj] at h
    obtain ⟨_,rfl⟩ : _ ∧ s1 = s':=by simpa using h
    exact zgm hc
   | false =>
    rw [hj] at h
    obtain ⟨_,rfl⟩ : _ ∧ s1 = s':=by simpa using h
    exact zgm hc
  ·
   exact zgm h
 | .scope c,s,s',x,h => by
  unfold evC at h
  exact zgm h
 | .exit id,s,s',x,h => by
  obtain ⟨_,rfl⟩ : _ ∧ s = s':=by simpa [evC] using h
  exact Grows.refl _
 | .ret,s,s',x,h => by
  obtain ⟨_,rfl⟩ : _ ∧ s = s':=by simpa [evC] using h
  exact Grows.refl _
 | .loop _,_,_,_,h => by simp [evC] at h
 | .rangeFunc _ _ _ _,_,_,_,h => by simp [evC] at h
 | .goto _,_,_,_,h => by simp [evC] at h
 | .refuse _,_,_,_,h => by simp [evC] at h
theorem c_wp : ∀ {c : Code} {Q : Exit → Act → World → Prop} {s s' : Sst P w0} {x : Xt} {a : Act} {e : Nat → Nat} {w : World},evC c s = some (x,s') → LogOk s'.g → Rel s a e w → (∀ a' e' w',Rel s' a' e' w' → Q x.to a' w') → c.wp P Q a w
 | .skip,Q,s,s',x,a,e,w,h,_,hR,hK => by
  obtain ⟨rfl,rfl⟩ : Xt.normal = x ∧ s = s':=by simpa [evC] using h
  exact wp_skip (hK a e w hR)
 | .label _,Q,s,s',x,a,e,w,h,_,hR,hK => by
  obtain ⟨rfl,rfl⟩ : Xt.normal = x ∧ s = s':=by simpa [evC] using h
  exact wp_label (hK a e w hR)
 | .region _ ops draw,Q,s,s',x,a,e,w,h,hl,hR,hK => by
  unfold evC at h
  rw [Option.map_eq_some_iff] at h
  obtain ⟨s1,h,he⟩:=h
  obtain ⟨rfl,rfl⟩ : Xt.normal = x ∧ s1 = s':=by simpa using he
  cases draw with
  | true => simpa using draw_wp (ops:=ops.toList) h hl hR hK
  | false => exact wp_region_list (by simpa using ops_wp (ops:=ops.toList) h hl hR hK)
 | .seq a b,Q,s,s',x,a',e,w,h,hl,hR,hK => by
  unfold evC at h
  refine wp_seq ?_
  split at h
  ·
   rename_i s1 ha
   exact c_wp ha ((zgm h).ok hl) hR fun a2 e2 w2 h2 => c_wp h hl h2 hK
  ·
   rename_i hne
   refine c_wp h hl hR fun a2 e2 w2 h2 => ?_
   have:=hK a2 e2 w2 h2
   cases x with
   | normal => exact absurd h (fun hh => hne _ hh)
   | exit id => exact this
   | ret => exact this
 | .cond c x y,Q,s,s',_,a,e,w,h,hl,hR,hK => by
  unfold evC at h
  have hc : a.eval c = (evX s c).den e:=by rw [hR.eval]
  split at h
  ·
   rename_i he
   rw [he] at hc
   exact wp_cond_true hc (c_wp h hl hR hK)
  ·
   rename_i he
   rw [he] at hc
   exact wp_cond_false hc (c_wp h hl hR hK)
  ·
   cases h
 | .block id c,Q,s,s',x,a,e,w,h,hl,hR,hK => by
  unfold evC at h
  refine wp_block ?_
  split at h
  ·
   rename_i j s1 hc
   cases hj : Nat.beq j id with
   | true =>
    rw [hj] at h
    obtain ⟨rfl,rfl⟩ : Xt.normal = x ∧ s1 = s':=by simpa using h
    have hj:=Nat.eq_of_beq_eq_true hj
    refine c_wp hc hl hR fun a2 e2 w2 h2 => ?_
    show (if j = id then Q .normal a2 w2 else Q (.exit j) a2 w2)
    rw [if_pos hj]
    exact hK a2 e2 w2 h2
   | false =>
    rw [hj] at h
    obtain ⟨rfl,rfl⟩ : Xt.exit j = x ∧ s1 = s':=by simpa using h
    have hj : j ≠ id:=fun hh => by subst hh; simp at hj
    refine c_wp hc hl hR fun a2 e2 w2 h2 => ?_
    show (if j = id then Q .normal a2 w2 else Q (.exit j) a2 w2)
    rw [if_neg hj]
    exact hK a2 e2 w2 h2
  ·
   rename_i hne
   refine c_wp h hl hR fun a2 e2 w2 h2 => ?_
   have:=hK a2 e2 w2 h2
   cases x with
   | normal => exact this
   | exit j => exact absurd h (fun hh => hne _ _ hh)
   | ret => exact this
 | .scope c,Q,s,s',x,a,e,w,h,hl,hR,hK => by
  unfold evC at h
  refine wp_scope_straight (c_wp h hl hR fun a2 e2 w2 h2 => ?_)
  have:=hK a2 e2 w2 h2
  cases x <;> exact this
 | .exit id,Q,s,s',x,a,e,w,h,_,hR,hK => by
  obtain ⟨rfl,rfl⟩ : Xt.exit id = x ∧ s = s':=by simpa [evC] using h
  exact wp_exit (hK a e w hR)
 | .ret,Q,s,s',x,a,e,w,h,_,hR,hK => by
  obtain ⟨rfl,rfl⟩ : Xt.ret = x ∧ s = s':=by simpa [evC] using h
  exact wp_ret (hK a e w hR)
 | .loop _,_,_,_,_,_,_,_,h,_,_,_ => by simp [evC] at h
 | .rangeFunc _ _ _ _,_,_,_,_,_,_,_,h,_,_,_ => by simp [evC] at h
 | .goto _,_,_,_,_,_,_,_,h,_,_,_ => by simp [evC] at h
 | .refuse _,_,_,_,_,_,_,_,h,_,_,_ => by simp [evC] at h
end
section
variable {P : Program} {w0 : World}
def evRV (s : Sst P w0) : ResultVar → Option Value
 | .tmp t => match lookS s.t t with
  | .v x => some x
  | .p _ _ => none
 | .cell t ty => match lookS s.t t with
  | .p i off => match s.m[i]?,P.underlying ty with
   | some b,some d => bif isRowT d then
     match P.info? ty with
     | some inf => match toVals ((b.cs.drop off).take inf.size) with
      | some vs => bif Nat.beq vs.length inf.size then some (.agg vs.toArray) else none
      | none => none
     | none => none
    else match b.cs[off]? with
     | some (.v x) => some x
     | _ => none
   | _,_ => none
  | .v _ => none
def rvRun (tmps : Array Value) : ResultVar → Sem Value
 | .tmp t => pure (tmps.getD t undef)
 | .cell a t => do loadVar t (← asAddr (tmps.getD a undef))
theorem zgq {s : Sst P w0} {r : ResultVar} {v : Value} {a : Act} {e : Nat → Nat} {w : World} (h : evRV s r = some v) (hR : Rel s a e w) : (rvRun a.tmps r).run P w = .ok v w:=by
 cases r with
 | tmp t =>
  unfold evRV at h
  simp only at h
  split at h
  ·
   rename_i x hx
   injection h with h
   subst h
   show (pure (a.tmps.getD t undef) : Sem Value).run P w = _
   rw [hR.slot t,hx]
   exact Sem.run_pure ..
  ·
   cases h
 | cell t ty =>
  unfold evRV at h
  simp only at h
  split at h
  ·
   rename_i i off hx
   have ha : a.tmps.getD t undef = .pointer (some ⟨e i,off,none⟩):=by rw [hR.slot t,hx]; rfl
   have hrun : (rvRun a.tmps (.cell t ty)).run P w = (loadVar ty ⟨e i,off,none⟩).run P w:=by
    show (do loadVar ty (← asAddr (a.tmps.getD t undef)) : Sem Value).run P w = _
    rw [ha]
    simp [asAddr]
   rw [hrun]
   split at h
   ·
    rename_i b d hb hu
    have hblk:=hR.blk i b hb
    cases hd : isRowT d with
    | true =>
     rw [hd] at h
     simp only [cond_true] at h
     split at h
     ·
      rename_i inf hi
      split at h
      ·
       rename_i vs hvs
       cases hl : Nat.beq vs.length inf.size with
       | false => rw [hl] at h; cases h
       | true =>
        rw [hl] at h
        have hlen:=Nat.eq_of_beq_eq_true hl
        obtain rfl : Value.agg vs.toArray = v:=by simpa using h
        refine run_loadVar_mid w (e i) off ty vs d (fun j u hu => ?_) hu (by cases d <;> simp_all [isRowT]) (by rw [hi]; simp [hlen])
        have hj : j < vs.length:=(List.getElem?_eq_some_iff.1 hu).1
        rw [cell_of_row w (e i) (off + j) _ _ _ hblk]
        have hm:=zjj (e:=e) hvs
        rw [← hm,← hlen,List.getElem?_map,List.getElem?_take_of_lt (by omega),List.getElem?_drop] at hu
        simpa using hu
      ·
       cases h
     ·
      cases h
    | false =>
     rw [hd] at h
     simp only [cond_false] at h
     split at h
     ·
      rename_i x hc
      obtain rfl : x = v:=by simpa using h
      have hcell : w.cell? ⟨e i,off,none⟩ = some x:=by
       rw [cell_of_row w (e i) off _ _ _ hblk]
       simp [hc,SV.den]
      have hl : (load ⟨e i,off,none⟩).run P w = .ok x w:=by simp [go_sem,hcell]
      simp only [loadVar,Sem.run_bind,agg_no hu hd w,Result.andThen_ok,Bool.false_eq_true,if_false,hl]
     ·
      cases h
   ·
    cases h
  ·
   cases h
def evRes (s : Sst P w0) (fn : Func) : Option Value :=
 match fn.results.toList with
 | [a] => evRV s a
 | [a,b] => match evRV s a,evRV s b with
  | some x,some y => some (.tuple #[x,y])
  | _,_ => none
 | [a,b,c] => match evRV s a,evRV s b,evRV s c with
  | some x,some y,some z => some (.tuple #[x,y,z])
  | _,_,_ => none
 | _ => none
theorem results_rv (fn : Func) (tmps : Array Value) : results fn tmps = (do let vs ← fn.results.mapM (rvRun tmps); pure (if h : vs.size = 1 then vs[0] else .tuple vs)):=by
 unfold results
 congr 1
theorem res_sound {s : Sst P w0} {fn : Func} {v : Value} {a : Act} {e : Nat → Nat} {w : World} (h : evRes s fn = some v) (hR : Rel s a e w) : (results fn a.tmps).run P w = .ok v w:=by
 rw [results_rv]
 unfold evRes at h
 split at h
 ·
  rename_i x hx
  have hx : fn.results = #[x]:=by apply Array.toList_inj.1; simpa using hx
  have hr:=zgq h hR
  rw [hx]
  simp [hr]
 ·
  rename_i x y hx
  have hx : fn.results = #[x,y]:=by apply Array.toList_inj.1; simpa using hx
  split at h
  ·
   rename_i u v h1 h2
   injection h with h
   subst h
   have hr1:=zgq h1 hR
   have hr2:=zgq h2 hR
   rw [hx]
   simp [hr1,hr2]
  ·
   cases h
 ·
  rename_i x y z hx
  have hx : fn.results = #[x,y,z]:=by apply Array.toList_inj.1; simpa using hx
  split at h
  ·
   rename_i u v t h1 h2 h3
   injection h with h
   subst h
   have hr1:=zgq h1 hR
   have hr2:=zgq h2 hR
   have hr3:=zgq h3 hR
   rw [hx]
   simp [hr1,hr2,hr3]
  ·
   cases h
 ·
  cases h
def enumS : Nat → List SV → List (Nat × SV)
 | _,[] => []
 | k,x :: r => (k,x) :: enumS (k + 1) r
theorem enum_look : ∀ (l : List SV) (k i : Nat),lookS (enumS k l) i = if k ≤ i then l.getD (i - k) (.v undef) else .v undef
 | [],k,i => by
  show SV.v undef = _
  split <;> simp
 | x :: r,k,i => by
  show lookS ((k,x) :: enumS (k + 1) r) i = _
  rw [zjs,enum_look r (k + 1) i]
  by_cases h : i = k
  ·
   subst h
   rw [if_pos rfl,if_pos (Nat.le_refl _),Nat.sub_self]
   rfl
  ·
   rw [if_neg h]
   by_cases h2 : k ≤ i
   ·
    rw [if_pos (by omega),if_pos h2,show i - k = (i - (k + 1)) + 1 by omega]
    rfl
   ·
    rw [if_neg (by omega),if_neg h2]
def badLog : List (Fun2 × Fun2):=[(fun _ W => .ok .skip W,fun _ W => .ok .recover W)]
def start (P : Program) (w0 : World) (fn : Func) (args : List SV) (m : List Blk) (q : List (Orc P w0)) : Sst P w0 :=
 { n:=args.length + (fn.ntmps - args.length),t:=enumS 0 args,m:=m,x:=m.length,q:=q,g:=[] }
def autoLog (P : Program) (w0 : World) (fn : Func) (args : List SV) (m : List Blk) (q : List (Orc P w0)) (v : Value) : List (Fun2 × Fun2) :=
 match fn.body with
 | some c => match evC c (start P w0 fn args m q) with
  | some (.exit _,_) => badLog
  | some (_,s) => match evRes s fn with
   | some u => (fun _ W => .ok (.value u) W,fun _ W => .ok (.value v) W) :: s.g
   | none => badLog
  | none => badLog
 | none => badLog
theorem log_of_map : ∀ {l : List (Fun2 × Fun2)},l.map Prod.fst = l.map Prod.snd → LogOk l
 | [],_ => fun p hp => by cases hp
 | x :: r,h => by
  rw [List.map_cons,List.map_cons] at h
  injection h with h1 h2
  intro p hp
  rcases List.mem_cons.1 hp with rfl | hp
  ·
   exact h1
  ·
   exact log_of_map h2 p hp
theorem bad_no (w : World) : ¬ LogOk badLog:=fun h => by
 have:=congrFun (congrFun (h _ (List.mem_singleton.2 rfl)) fun _ => 0) w
 cases this
theorem auto {f : FuncId} {fn : Func} {w : World} (hf : P.funcs[f]? = some fn) (args : List SV) (m : List Blk) (e : Nat → Nat) (q : List (Orc P w)) (v : Value)
  (hm : ∀ (i : Nat) b,m[i]? = some b → w.heap[e i]? = some (b.obj e)) (chk : (autoLog P w fn args m q v).map Prod.fst = (autoLog P w fn args m q v).map Prod.snd) :
  Calls P f (args.map (SV.den e)).toArray w fun e' w' => e' = .returned v ∧ Ext w w':=by
 have hl:=log_of_map chk
 unfold autoLog at hl
 split at hl
 ·
  rename_i c hc
  have hR : Rel (start P w fn args m q) { tmps:=(args.map (SV.den e)).toArray ++ Array.replicate (fn.ntmps - (args.map (SV.den e)).toArray.size) undef,defers:=[] } e w:=by
   refine ⟨by simp [start],rfl,fun i => ?_,hm,fun i h1 h2 => ?_,fun i j h1 h2 h3 h4 => ?_,Ext.refl w⟩
   ·
    show _ = (lookS (enumS 0 args) i).den e
    rw [enum_look,if_pos (Nat.zero_le _),Nat.sub_zero]
    by_cases hi : i < args.length
    ·
     simp [Array.getD_eq_getD_getElem?,Array.getElem?_append,hi,List.getD_eq_getElem?_getD]
    ·
     simp [Array.getD_eq_getD_getElem?,Array.getElem?_append,hi,List.getD_eq_getElem?_getD,Array.getElem?_replicate,SV.den]
     split <;> rfl
   ·
    have h1 : m.length ≤ i:=h1
    have h2 : i < m.length:=h2
    omega
   ·
    have h1 : m.length ≤ i:=h1
    have h2 : i < m.length:=h2
    omega
  refine calls_of_wp hf hc ?_
  split at hl
  ·
   exact absurd hl (bad_no w)
  ·
   rename_i x s hne hev
   split at hl
   ·
    rename_i u hu
    have hs : LogOk s.g:=fun p hp => hl p (List.mem_cons_of_mem _ hp)
    have huv:=congrFun (congrFun (hl _ List.mem_cons_self) e) w
    have huv : u = v:=by simpa using huv
    refine c_wp hev hs hR fun a' e' w' h => ?_
    have hres:=res_sound hu h
    rw [huv] at hres
    cases x with
    | normal => exact ⟨h.defers,v,hres,rfl,h.ext⟩
    | ret => exact ⟨h.defers,v,hres,rfl,h.ext⟩
    | exit id => exact absurd rfl (hne id)
   ·
    exact absurd hl (bad_no w)
  ·
   exact absurd hl (bad_no w)
 ·
  exact absurd hl (bad_no w)
theorem auto0 {f : FuncId} {fn : Func} {w : World} (hf : P.funcs[f]? = some fn) (args : List Value) (q : List (Orc P w)) (v : Value)
  (chk : (autoLog P w fn (args.map SV.v) [] q v).map Prod.fst = (autoLog P w fn (args.map SV.v) [] q v).map Prod.snd) :
  Calls P f args.toArray w fun e' w' => e' = .returned v ∧ Ext w w':=by
 have h:=auto hf (args.map SV.v) [] (fun _ => 0) q v (fun i b hb => by cases hb) chk
 rw [List.map_map] at h
 have e : (SV.den fun _ => 0) ∘ SV.v = id:=rfl
 rwa [e,List.map_id] at h
end
theorem half_div (X P : Nat) : X / 2 / P = X / P / 2:=by rw [Nat.div_div_eq_div_mul,Nat.div_div_eq_div_mul,Nat.mul_comm]
theorem dg_next (B X i : Nat) : dg B X (i + 1) = X / B ^ i / B % B:=by rw [dg,Nat.pow_succ,Nat.div_div_eq_div_mul]
theorem half_word (X m : Nat) : bits .or .u64 (wd X m / 2) (IntKind.u64.wrap (wd X (m + 1) * 9223372036854775808)) = wd (X / 2) m:=by
 unfold wd
 rw [dg_next,IntKind.wrap_u64]
 show _ = ((X / 2 / w64 ^ m % w64 : Nat) : Int)
 rw [half_div]
 unfold dg
 generalize X / w64 ^ m = q
 unfold w64
 rw [show ((q % 18446744073709551616 : Nat) : Int) / 2 = ((q % 18446744073709551616 / 2 : Nat) : Int) by omega,
  show ((q / 18446744073709551616 % 18446744073709551616 : Nat) : Int) * 9223372036854775808 % 18446744073709551616 = ((q / 18446744073709551616 % 2 * 9223372036854775808 : Nat) : Int) by omega]
 rw [u64_or_nat _ _ (by omega) (by omega),Nat.or_comm,nat_join 63 _ _ (by omega) (by omega)]
 omega
theorem wd_top {X : Nat} (hX : X < top) : wd X 4 = 0:=by
 unfold wd dg
 unfold top at hX
 rw [Nat.div_eq_of_lt hX]; rfl
theorem row_down {X m : Nat} : ∀ i,i < 4 → (if i = m then Value.int .u64 (wd X m) else Value.int .u64 (if m + 1 ≤ i then wd X i else 0)) = Value.int .u64 (if m ≤ i then wd X i else 0):=by
 intro i _
 by_cases h : i = m
 ·
  subst h; simp
 ·
  rw [if_neg h]; by_cases h2 : m ≤ i
  ·
   rw [if_pos h2,if_pos (by omega)]
  ·
   rw [if_neg h2,if_neg (by omega)]
theorem half_calls (X : Nat) (hX : X < top) (w : World) :
  Calls Tryz.prog 121 #[.agg #[vI vU (wd X 0),vI vU (wd X 1),vI vU (wd X 2),vI vU (wd X 3)]] w fun e w' => e = .returned (.agg #[vI vU (wd (X / 2) 0),vI vU (wd (X / 2) 1),vI vU (wd (X / 2) 2),vI vU (wd (X / 2) 3)]) ∧ Below w.heap.size w w':=by
 go_enter Tryz.func121,Tryz.ntmps121
 go_wp2
 go_loopw [4,5] (fun c i wr => ∃ k : Nat,k ≤ 4 ∧ i = .int .i64 ((k : Int) - 1) ∧ c = .int .u64 (wd X k) ∧ wr.rowIs w.heap.size 27 4 (fun j => .int .u64 (wd X j))
   ∧ wr.rowIs (w.heap.size + 1) 27 4 (fun _ => .int .u64 0) ∧ wr.rowIs (w.heap.size + 1 + 1) 27 4 (fun j => .int .u64 (if k ≤ j then wd (X / 2) j else 0)) ∧ Below w.heap.size w wr)
  (fun _ i _ => (intOf i + 1).toNat)
 case atStart => exact ⟨4,by omega,rfl,by rw [wd_top hX],((zae (n:=4) (by simp) rfl (arr4 fun j => .int .u64 (wd X j))).alloc _).alloc _,(zae (n:=4) (by simp) rfl (arr4 fun _ => .int .u64 0)).alloc _,(zae (n:=4) (f:=fun _ => .int .u64 0) (by simp) rfl (arr4 fun _ => .int .u64 0)).congr (fun i hi => by rw [if_neg (by omega)]),(((Below.refl _ _).alloc (by simp) _).alloc (by simp) _).alloc (by simp; omega) _⟩
 case round =>
  obtain ⟨k,hk,hi,rfl,hRX,hRZ,hS,hbel⟩:=hrel
  cases k with
  | zero =>
   subst hi
   obtain ⟨c0,c1,c2,c3⟩:=zac hS
   obtain ⟨d0,d1,d2,d3⟩:=zac hRZ
   obtain ⟨f0,f1,f2,f3⟩:=zaf hRZ
   simp only [Nat.zero_le,if_true] at c0 c1 c2 c3
   clear hS hRX
   go_wp2
   refine bodyPost_ret (results_cell_row rfl _ _ (w.heap.size + 1) 27 #[vI vU (wd (X / 2) 0),vI vU (wd (X / 2) 1),vI vU (wd (X / 2) 2),vI vU (wd (X / 2) 3)] (0,0) _ rfl (blk4 (put4 hRZ fun j => .int .u64 (wd (X / 2) j))) Tryz.underlying27 rfl (by kernel_rfl)) rfl ⟨rfl,zai hbel (by omega) _ _ _ _⟩
  | succ m =>
   obtain rfl : _ = Value.int .i64 (m : Int):=hi.trans (by congr 1; omega)
   have hm : m < 4:=by omega
   clear hi
   have c1:=hRX.cell hm
   have c2:=hS.cell hm
   have f2:=hS.frozen m
   have l1:=wd_lo X m
   have u1:=wd_le X m
   have l2:=wd_lo X (m + 1)
   have u2:=wd_le X (m + 1)
   go_wp2
   go_roundw
   case rel =>
    rw [half_word]
    exact ⟨m,by omega,rfl,rfl,zau hRX (by omega) _,zau hRZ (by omega) _,(hS.set m _).congr row_down,zaq hbel (by omega) _⟩
   case measure => simp [intOf]
theorem khalf (X Z : Nat) (h : X / 2 = Z) (hX : X < top) (w : World) :
  Calls Tryz.prog 121 #[.agg #[vI vU (wd X 0),vI vU (wd X 1),vI vU (wd X 2),vI vU (wd X 3)]] w fun e w' => e = .returned (.agg #[vI vU (wd Z 0),vI vU (wd Z 1),vI vU (wd Z 2),vI vU (wd Z 3)]) ∧ Below w.heap.size w w':=by
 subst h; exact half_calls X hX w
theorem klen (X : Nat) (m : Int) (h : (bitLen X : Int) = m) (hX : X < top) (w : World) :
  Calls Tryz.prog 145 #[.agg #[vI vU (wd X 0),vI vU (wd X 1),vI vU (wd X 2),vI vU (wd X 3)]] w fun e w' => e = .returned (.int .i64 m) ∧ Below w.heap.size w w':=by
 subst h; exact len_calls X hX w
theorem or_u64 {V Y : Nat} (hV : V < 72057594037927936) (hY : Y < 256) : bits .or .u64 (IntKind.u64.wrap ((V : Int) * 256)) (Y : Int) = ((256 * V + Y : Nat) : Int):=by
 rw [IntKind.wrap_u64,show (V : Int) * 256 % 18446744073709551616 = ((V * 256 : Nat) : Int) by omega,u64_or_nat _ _ (by omega) (by omega),nat_join 8 _ _ (by omega) (by omega),Nat.mul_comm]
theorem valB_lt8 {bs : List Nat} (h : Byt bs) : ∀ i,i ≤ bs.length → valB (bs.take i) < 256 ^ i
 | 0,_ => by simp [valB]
 | i + 1,hi => by
  have h1:=valB_lt8 h i (by omega)
  have h2:=h.getD i
  rw [zcc (by omega),Nat.pow_succ]
  omega
theorem valB_ge {bs : List Nat} : ∀ i,i < bs.length → bs.getD 0 0 * 256 ^ i ≤ valB (bs.take (i + 1))
 | 0,hi => by
  rw [zcc hi]
  omega
 | i + 1,hi => by
  have h1:=valB_ge (bs:=bs) i (by omega)
  rw [zcc hi,Nat.pow_succ,← Nat.mul_assoc]
  omega
theorem ofB_big {bs : List Nat} (h : Byt bs) (hl : 8 = bs.length) (hv : (9223372036854775807 : Int) < (valB bs : Nat)) : ofB bs = -1:=by
 unfold ofB
 rw [if_neg]
 rintro ⟨_,h0⟩
 have h1:=zkh h h0 7 (by omega)
 rw [List.take_of_length_le (by omega)] at h1
 have : (128 : Nat) * 256 ^ 7 = 9223372036854775808:=by decide
 omega
theorem ofB_small {bs : List Nat} (hl : 8 = bs.length) (hv : ¬ (9223372036854775807 : Int) < (valB bs : Nat)) : ofB bs = (valB bs : Nat):=by
 unfold ofB
 rw [if_pos]
 refine ⟨hl.symm,?_⟩
 have h1:=valB_ge (bs:=bs) 7 (by omega)
 rw [List.take_of_length_le (by omega)] at h1
 have : (256 : Nat) ^ 7 = 72057594037927936:=by decide
 omega
def nbv (U j : Nat) : Value:=.int .u8 ((U / 256 ^ (7 - j) % 256 : Nat) : Int)
theorem num_step {U k j : Nat} (hk : k < 8) (hj : j = 7 - k) : ∀ i,i < 8 → (if i = j then nbv U j else if 8 ≤ i + k then nbv U i else .int .u8 0) = (if 8 ≤ i + (k + 1) then nbv U i else .int .u8 0):=by
 intro i hi
 by_cases h : i = j
 ·
  rw [if_pos h,if_pos (by omega),h]
 ·
  rw [if_neg h]
  by_cases h2 : 8 ≤ i + k
  ·
   rw [if_pos h2,if_pos (by omega)]
  ·
   rw [if_neg h2,if_neg (by omega)]
theorem num_bs {w : World} {g : Nat} {n : Int} {U : Nat} (hU : U = (n % 18446744073709551616).toNat) (h : w.rowIs g 5 8 (nbv U)) : Bs w (some ⟨g,0,none⟩) (numB n):=by
 refine ⟨numB_byt n,.inr ⟨g,0,rfl,h.lt,fun j hj => ?_⟩⟩
 rw [zcf] at hj
 rw [Nat.zero_add,h.cell hj,hU]
 unfold nbv
 rw [List.getD_eq_getElem?_getD]
 simp [numB,hj]
theorem row_fill {w : World} {z : Value} {n b t : Nat} (hb : b = w.heap.size) : (w.alloc (.cells (madeCells #[z] n) t)).rowIs b t n (fun _ => z):=by
 subst hb
 exact World.rowIs_made w z n t
theorem num8_calls (n : Int) (w : World) (_h0 : -9223372036854775808 ≤ n) (_h1 : n ≤ 9223372036854775807) :
  Calls Tryz.prog 50 #[.int .i64 n] w fun e w' => ∃ A c,e = .returned (.slice A 8 c) ∧ 8 ≤ c ∧ Bs w' A (numB n) ∧ Ext w w':=by
 obtain ⟨U,hU⟩ : ∃ U,U = (n % 18446744073709551616).toNat:=⟨_,rfl⟩
 have hw : IntKind.u64.wrap n = (U : Int):=by
  rw [hU]
  show n % 18446744073709551616 = _
  omega
 have HU:=veil hU
 clear hU _h0 _h1
 obtain ⟨i0,hi,hz0,hz1,hz2⟩:=info_parts infoTG
 have hmk : ∀ W : World,(Instr.makeSlice 33 (.int .i64 8) (.int .i64 8)).run Tryz.prog W = .ok (.slice (some ⟨W.heap.size,0,none⟩) 8 8) (W.alloc (.cells (madeCells #[.int .u8 0] 8) 5)) :=
  fun W => run_make_row 33 5 i0 (.int .u8 0) Tryz.underlying33 hi hz0 hz1 rfl .i64 .i64 8 (by rw [hz2]; omega) (by omega) W
 clear hi hz0 hz1 hz2
 go_enter Tryz.func50,Tryz.ntmps50
 go_wp2
 go_loopw [4,5] (fun v i wr => ∃ k : Nat,k ≤ 8 ∧ v = .int .u64 ((U / 256 ^ k : Nat) : Int) ∧ i = .int .i64 (7 - (k : Int)) ∧ wr.rowIs w.heap.size 5 8 (fun j => if 8 ≤ j + k then nbv U j else .int .u8 0) ∧ Ext w wr)
  (fun _ i _ => (intOf i + 1).toNat)
 case atStart => exact ⟨0,by omega,by simp,rfl,(row_fill (w:=w) (z:=.int .u8 0) rfl).congr (fun i hi => by rw [if_neg (by omega)]),Ext.alloc w _⟩
 case round =>
  obtain ⟨k,hk,rfl,rfl,hR,hE⟩:=hrel
  by_cases hlt : k < 8
  ·
   obtain ⟨j,hj⟩ : ∃ j,j = 7 - k:=⟨_,rfl⟩
   have hji : (7 : Int) - (k : Int) = (j : Int):=by omega
   have hjn : (j : Int) < (8 : Int):=by omega
   have c2:=hR.cell (i:=j) (by omega)
   have f2:=hR.frozen j
   have hs : U / 256 ^ (k + 1) = U / 256 ^ k / 256:=by rw [Nat.pow_succ,← Nat.div_div_eq_div_mul]
   have hb : nbv U j = .int .u8 (((U / 256 ^ k % 256 : Nat) : Nat) : Int):=by unfold nbv; rw [show 7 - j = k by omega]
   generalize U / 256 ^ k = q at *
   have HJ:=veil (And.intro hj (And.intro hs hb))
   clear hj hs hb
   rw [hji]
   go_wp2
   go_roundw
   case rel =>
    refine ⟨k + 1,by omega,by rw [HJ.out.2.1]; simp,by go_num,?_,?_⟩
    ·
     have h2:=HJ.out.2.2
     rw [show ((q % 256 : Nat) : Int) = (q : Int) % 256 by omega] at h2
     rw [← h2]
     exact (hR.set j (nbv U j)).congr (num_step hlt HJ.out.1)
    ·
     exact zaq hE (Nat.le_refl _) _
   case measure => simp [intOf]
  ·
   obtain rfl : k = 8:=by omega
   go_wp2
   go_ret
   exact ⟨_,8,rfl,by omega,num_bs HU.out (hR.congr fun i hi => by rw [if_pos (by omega)]),hE⟩
theorem of8_calls (A : Option Addr) (m c : Nat) (bs : List Nat) (hm : m = bs.length) (hmc : m ≤ c) (w : World) (hS : Bs w A bs) :
  Calls Tryz.prog 56 #[.slice A m c] w fun e w' => ∃ x ev,e = .returned (.tuple #[x,ev]) ∧ Ext w w' ∧ OfA bs x ev:=by
 have HS:=veil (And.intro hS hm)
 by_cases h8 : m = 8
 ·
  subst h8
  clear hS hm
  go_enter Tryz.func56,Tryz.ntmps56
  go_wp2
  go_loopw [4,13] (fun v u wr => ∃ i : Nat,i ≤ 8 ∧ u = .int .i64 (i : Int) ∧ v = .int .u64 ((valB (bs.take i) : Nat) : Int) ∧ Ext w wr)
   (fun _ v _ => 8 - (intOf v).toNat)
  case atStart => exact ⟨0,by omega,rfl,rfl,Ext.refl _⟩
  case round =>
   obtain ⟨i,hi,rfl,rfl,hE⟩:=hrel
   by_cases hlt : i < 8
   ·
    have hii : (i : Int) < 8:=by omega
    obtain ⟨b2,o2,hA,_,c1⟩:=(HS.out.1.ext hE).cell (j:=i) (by have:=HS.out.2; omega)
    have l1:=HS.out.1.1.getD i
    obtain ⟨V,hV⟩ : ∃ V,V = valB (bs.take i):=⟨_,rfl⟩
    obtain ⟨Y,hY⟩ : ∃ Y,Y = bs.getD i 0:=⟨_,rfl⟩
    rw [← hY] at c1 l1
    rw [← hV]
    have k1 : (Y : Int) ≤ 255:=by omega
    have HVY:=veil (And.intro hV hY)
    have hv:=valB_lt8 HS.out.1.1 i (by have:=HS.out.2; omega)
    have h7 : 256 ^ i ≤ 256 ^ 7:=Nat.pow_le_pow_right (by decide) (by omega)
    have e7 : (256 : Nat) ^ 7 = 72057594037927936:=by decide
    have hor:=or_u64 (V:=V) (Y:=Y) (by omega) l1
    have HOR:=veil hor
    clear hV hY l1 hv h7 e7 hor
    subst hA
    go_wp2
    go_roundw
    case rel =>
     refine ⟨i + 1,by omega,by go_num,?_,hE⟩
     rw [zcc (by have:=HS.out.2; omega),← HVY.out.1,← HVY.out.2,HOR.out]
    case measure => simp [intOf]; omega
   ·
    obtain rfl : i = 8:=by omega
    have e : bs.take 8 = bs:=List.take_of_length_le (by have:=HS.out.2; omega)
    rw [e]
    obtain ⟨V,hV⟩ : ∃ V,V = valB bs:=⟨_,rfl⟩
    rw [← hV]
    have HV:=veil hV
    clear hV e
    by_cases g : (9223372036854775807 : Int) < (V : Int)
    ·
     have hd : decide ((9223372036854775807 : Int) < (V : Int)) = true:=decide_eq_true g
     have HR:=veil (ofB_big HS.out.1.1 HS.out.2 (by rw [← HV.out]; exact g))
     clear g
     go_wp2
     go_ret2
     exact ⟨_,_,rfl,hE,.inl ⟨by rw [HR.out]; decide,rfl,rfl⟩⟩
    ·
     have hd : decide ((9223372036854775807 : Int) < (V : Int)) = false:=decide_eq_false g
     have HR:=veil (ofB_small (bs:=bs) HS.out.2 (by rw [← HV.out]; exact g))
     have hle : (V : Int) ≤ 9223372036854775807:=by omega
     clear g
     go_wp2
     go_ret2
     exact ⟨_,_,rfl,hE,.inr ⟨by rw [HR.out]; omega,by rw [HR.out,← HV.out]; rfl,rfl⟩⟩
 ·
  have h8' : ¬ ((m : Int) = 8):=by omega
  have hr : ofB bs = -1:=by
   unfold ofB
   rw [if_neg]
   intro h
   omega
  have HR:=veil hr
  clear hS hm hr
  go_enter Tryz.func56,Tryz.ntmps56
  go_wp2
  go_ret2
  exact ⟨_,_,rfl,Ext.refl _,.inl ⟨by rw [HR.out]; decide,rfl,rfl⟩⟩
theorem code8 : Code8 where
 may:=zgb
 put v fs w hF hL:=by
  cases hM : mayFs fs with
  | false => exact (put_no v fs w hF hL hM).mono fun e w' ⟨he,hE⟩ => ⟨_,_,he,hE,.inl ⟨hM,⟨none,0,rfl⟩,rfl⟩⟩
  | true => exact (put_yes v fs w hF hM).mono fun e w' ⟨A,c,he,hc,hB,hE⟩ => ⟨_,_,he,hE,.inr ⟨hM,rfl,A,c,rfl,hc,hB⟩⟩
 get A m c bs w hm hmc hle hS:=get8_calls A m c bs hm hmc hle w hS
 number n w h0 h1:=num8_calls n w h0 h1
 of A m c bs w hm hmc hS:=of8_calls A m c bs hm hmc w hS
def tagFs : Int → List (List Nat) → List Fd
 | _,[] => []
 | t,x :: r => (t,x) :: tagFs (t + 1) r
theorem zed : ∀ (t : Int) (l : List (List Nat)),(tagFs t l).length = l.length
 | _,[] => rfl
 | t,_ :: r => by
  show (tagFs (t + 1) r).length + 1 = r.length + 1
  rw [zed (t + 1) r]
theorem tagFs_get : ∀ (t : Int) (l : List (List Nat)) (i : Nat),i < l.length → tgF (tagFs t l) i = t + i ∧ bsF (tagFs t l) i = l.getD i []
 | _,[],_,h => by simp at h
 | t,n :: r,0,_ => ⟨by show t = t + ((0 : Nat) : Int); omega,rfl⟩
 | t,n :: r,i + 1,h => by
  obtain ⟨h1,h2⟩:=tagFs_get (t + 1) r i (by simpa using h)
  refine ⟨?_,h2⟩
  show tgF (tagFs (t + 1) r) i = _
  rw [h1]
  omega
theorem tagFs_num : ∀ (t : Int) (l : List Int),tagFs t (l.map numB) = numFs t l
 | _,[] => rfl
 | t,n :: r => by
  show (t,numB n) :: tagFs (t + 1) (r.map numB) = (t,numB n) :: numFs (t + 1) r
  rw [tagFs_num (t + 1) r]
theorem tagFs_byt : ∀ {t : Int} {l : List (List Nat)},(∀ x ∈ l,Byt x) → BytF (tagFs t l)
 | _,[],_ => fun f hf => by cases hf
 | t,x :: r,h => fun f hf => by
  rcases List.mem_cons.1 hf with rfl | hf
  ·
   exact h _ List.mem_cons_self
  ·
   exact tagFs_byt (t:=t + 1) (fun y hy => h y (List.mem_cons_of_mem _ hy)) f hf
def Vs (w : World) (v : Value) (l : List (List Nat)) : Prop:=(∀ x ∈ l,Byt x) ∧ ∃ AL c,v = .slice AL l.length c ∧ l.length ≤ c ∧ (l.length = 0 ∨ ∃ b o,AL = some ⟨b,o,none⟩ ∧ b < w.heap.size ∧
 ∀ i,i < l.length → ∃ A c',w.cell? ⟨b,o + i,none⟩ = some (.slice A (l.getD i []).length c') ∧ (l.getD i []).length ≤ c' ∧ Bs w A (l.getD i []))
theorem Vs.ext {w w' : World} {v : Value} {l : List (List Nat)} (h : Vs w v l) (k : Ext w w') : Vs w' v l:=by
 obtain ⟨hB,AL,c,e,hc,h⟩:=h
 refine ⟨hB,AL,c,e,hc,h.imp id ?_⟩
 rintro ⟨b,o,e,hb,hx⟩
 refine ⟨b,o,e,Nat.lt_of_lt_of_le hb k.size,fun i hi => ?_⟩
 obtain ⟨A,c',h2,h3,h4⟩:=hx i hi
 exact ⟨A,c',(k.cell hb).trans h2,h3,h4.ext k⟩
theorem hmk_fd (n : Nat) (hn : n ≤ 1000000) (W : World) : (Instr.makeSlice 61 (.int .i64 (n : Int)) (.int .i64 (n : Int))).run Tryz.prog W = .ok (.slice (some ⟨W.heap.size,0,none⟩) n n) (W.alloc (.cells (madeCells #[.int .i64 0,.slice none 0 0] (n * 2)) 64)):=by
 obtain ⟨i,hi,hz,hsz,hby⟩:=info_parts2 infoF16
 have h:=run_make (P:=Tryz.prog) W 61 64 i _ Tryz.underlying61 hi hz .i64 .i64 (n : Int) (n : Int) (by omega) (Int.le_refl _) (by rw [hby]; omega) (by omega)
 simp only [Int.toNat_natCast,hsz,Value.cells] at h
 exact h
theorem pre_new (w : World) (C : Array Value) (t m : Nat) (hm : m = C.size) : Pre (w.alloc (.cells C t)) w.heap.size t m (fun j => C.getD j undef) :=
 ⟨C,zar w _,fun i hi => by
  have : i < C.size:=by omega
  simp [Array.getD,this]⟩
theorem Pre.there {w : World} {g t n : Nat} {f : Nat → Value} (p : Pre w g t n f) {i : Nat} (hi : i + 2 ≤ n) : w.there g i 2:=fun j hj => ⟨by rw [p.cell (show i + j < n by omega)]; rfl,p.frozen _⟩
theorem Pre.two {w : World} {g t n : Nat} {f : Nat → Value} (p : Pre w g t n f) (i : Nat) (x y : Value) : Pre (w.setCells g i [x,y]) g t n (fun j => if j = i + 1 then y else if j = i then x else f j):=(p.set i x).set (i + 1) y
def Laid (w : World) (l : List (List Nat)) (f : Nat → Value) (i : Nat) : Prop:=∀ j,j < i → f (j * 2) = .int .i64 ((j : Int) + 1) ∧ ∃ A c,f (j * 2 + 1) = .slice A (l.getD j []).length c ∧ (l.getD j []).length ≤ c ∧ Bs w A (l.getD j [])
theorem Laid.step {w : World} {l : List (List Nat)} {f : Nat → Value} {i c : Nat} {A : Option Addr} (h : Laid w l f i) (hc : (l.getD i []).length ≤ c) (hB : Bs w A (l.getD i [])) :
  Laid w l (fun j => if j = i * 2 + 1 then .slice A (l.getD i []).length c else if j = i * 2 then .int .i64 ((i : Int) + 1) else f j) (i + 1):=fun j hj => by
 by_cases e : j = i
 ·
  subst e
  exact ⟨by simp only; rw [if_neg (by omega),if_pos trivial],A,c,by simp only; rw [if_pos trivial],hc,hB⟩
 ·
  obtain ⟨h1,h2⟩:=h j (by omega)
  refine ⟨?_,?_⟩
  ·
   simp only
   rw [if_neg (by omega),if_neg (by omega)]
   exact h1
  ·
   simp only
   rw [if_neg (by omega),if_neg (by omega)]
   exact h2
theorem Laid.fl {w w' : World} {l : List (List Nat)} {f : Nat → Value} {g n : Nat} (h : Laid w l f n) (hn : n = l.length) (hE : Ext w w') (hl : ∀ x ∈ l,Byt x) (hp : Pre w' g 64 (n * 2) f) : Fl w' (.slice (some ⟨g,0,none⟩) n n) (tagFs 1 l):=by
 subst hn
 refine ⟨tagFs_byt hl,some ⟨g,0,none⟩,l.length,by rw [zed],by rw [zed]; exact Nat.le_refl _,.inr ⟨g,0,rfl,hp.lt,fun i hi => ?_⟩⟩
 rw [zed] at hi
 obtain ⟨h1,A,c,h2,h3,h4⟩:=h i hi
 obtain ⟨e1,e2⟩:=tagFs_get 1 l i hi
 rw [e1,e2]
 refine ⟨?_,A,c,?_,h3,h4.ext hE⟩
 ·
  rw [Nat.zero_add,hp.cell (by omega),h1,show (i : Int) + 1 = 1 + (i : Int) by omega]
 ·
  rw [Nat.zero_add,hp.cell (by omega),h2]
theorem tput_calls (v : Value) (l : List (List Nat)) (hL : l.length ≤ 64) (w : World) (hV : Vs w v l) :
  Calls Tryz.prog 84 #[v] w fun e w' => ∃ x ev,e = .returned (.tuple #[x,ev]) ∧ Ext w w' ∧ PutA w' (tagFs 1 l) x ev:=by
 obtain ⟨hB,AL,c,rfl,hc,hx⟩:=hV
 obtain ⟨n,hn⟩ : ∃ n,n = l.length:=⟨_,rfl⟩
 rw [← hn] at hx hc hL ⊢
 have HX:=veil (And.intro hx (And.intro hn hB))
 have hmk:=hmk_fd n (by omega)
 have hp0:=pre_new w (madeCells #[.int .i64 0,.slice none 0 0] (n * 2)) 64 (n * 2) (size_madeCells _ _).symm
 have hE0:=Ext.alloc w (.cells (madeCells #[.int .i64 0,.slice none 0 0] (n * 2)) 64)
 have H0:=veil (And.intro hp0 hE0)
 clear hx hn hB hp0 hE0
 go_enter Tryz.func84,Tryz.ntmps84
 go_upto_region 2 with (fail)
 obtain ⟨g,hg⟩ : ∃ g,g = w.heap.size:=⟨_,rfl⟩
 generalize w.alloc (.cells (madeCells #[.int .i64 0,.slice none 0 0] (n * 2)) 64) = w1 at *
 rw [← hg] at H0 ⊢
 have HG:=veil (show w.heap.size ≤ g by omega)
 clear hg hmk
 go_wp2
 go_loopw [5,6,12] (fun _ _ v wr => ∃ i : Nat,i ≤ n ∧ v = .int .i64 (i : Int) ∧ (∃ f,Pre wr g 64 (n * 2) f ∧ Laid w l f i) ∧ Ext w wr)
  (fun _ _ v _ => n - (intOf v).toNat)
 case atStart => exact ⟨0,by omega,rfl,⟨_,H0.out.1,fun j hj => by omega⟩,H0.out.2⟩
 case round =>
  obtain ⟨i,hi,rfl,⟨f,hp,hl⟩,hE⟩:=hrel
  by_cases hlt : i < n
  ·
   have hd1 : decide ((i : Int) < (n : Int)) = true:=by simp; omega
   have hii : (i : Int) < (n : Int):=by omega
   obtain ⟨b,o,hA,hb,hcl⟩:=HX.out.1.resolve_left (by omega)
   obtain ⟨A,c',h1,h2,h3⟩:=hcl i (by have:=HX.out.2.1; omega)
   have c0:=(hE.cell hb).trans h1
   have HS:=veil (And.intro (Laid.step hl h2 h3) (And.intro hp hE))
   have hth:=hp.there (i:=i * 2) (by omega)
   have HT:=veil hth
   generalize (l.getD i []).length = L at *
   subst hA
   clear h1 h2 h3 hl hp hth hcl hE
   go_wp2_with ((with_reducible refine zap ?_); refine wpList_store_mid rfl 64 _ _ rfl g (i * 2) _ rfl rfl HT.out infoF2 one_fd ?_)
   go_roundw
   case rel => exact ⟨i + 1,by omega,by go_num,⟨_,HS.out.2.1.two (i * 2) _ _,HS.out.1⟩,zaq (zaq HS.out.2.2 HG.out _) HG.out _⟩
   case measure => simp [intOf]; omega
  ·
   obtain rfl : i = n:=by omega
   have hd1 : decide ((i : Int) < (i : Int)) = false:=by simp
   have KP:=veil (code8.put _ _ wr (Laid.fl hl HX.out.2.1 hE HX.out.2.2 hp) (by rw [zed]; have:=HX.out.2.1; omega))
   have HE:=veil hE
   clear hl hp hE
   go_wp2_with (go_at_call 27; refine KP.out.mono ?_; rintro e w2 ⟨x,ev,rfl,hE2,hA⟩)
   go_ret2
   exact ⟨_,_,rfl,HE.out.trans hE2,hA⟩
structure Code (I : World → Prop) : Prop where
 keep : ∀ w w',I w → Below w.heap.size w w' → I w'
 on : ∀ X Y f,X < top → Y < top → ∀ w,I w → Calls Tryz.prog 47 #[.agg #[vI vU (wd X 0),vI vU (wd X 1),vI vU (wd X 2),vI vU (wd X 3),vI vU (wd Y 0),vI vU (wd Y 1),vI vU (wd Y 2),vI vU (wd Y 3),.bool (f)]] w fun e w' => e = .returned (.bool (onB X Y f)) ∧ Below w.heap.size w w'
 addNo : ∀ X Y f X' Y' f',X < top → Y < top → X' < top → Y' < top → (onB X Y f = false ∨ onB X' Y' f' = false) → ∀ w,I w → Calls Tryz.prog 126 #[.agg #[vI vU (wd X 0),vI vU (wd X 1),vI vU (wd X 2),vI vU (wd X 3),vI vU (wd Y 0),vI vU (wd Y 1),vI vU (wd Y 2),vI vU (wd Y 3),.bool (f)],.agg #[vI vU (wd (X') 0),vI vU (wd (X') 1),vI vU (wd (X') 2),vI vU (wd (X') 3),vI vU (wd (Y') 0),vI vU (wd (Y') 1),vI vU (wd (Y') 2),vI vU (wd (Y') 3),.bool (f')]] w fun e w' => e = .returned (.tuple #[.agg #[vI vU 0,vI vU 0,vI vU 0,vI vU 0,vI vU 0,vI vU 0,vI vU 0,vI vU 0,.bool false],.iface 39 (.int .i64 1)]) ∧ Below w.heap.size w w'
 add : ∀ q r : Pt.Q,∀ w,I w → Calls Tryz.prog 126 #[.agg #[vI vU (wd (Pt.pX q.1) 0),vI vU (wd (Pt.pX q.1) 1),vI vU (wd (Pt.pX q.1) 2),vI vU (wd (Pt.pX q.1) 3),vI vU (wd (Pt.pY q.1) 0),vI vU (wd (Pt.pY q.1) 1),vI vU (wd (Pt.pY q.1) 2),vI vU (wd (Pt.pY q.1) 3),.bool (Pt.pFar q.1)],.agg #[vI vU (wd (Pt.pX r.1) 0),vI vU (wd (Pt.pX r.1) 1),vI vU (wd (Pt.pX r.1) 2),vI vU (wd (Pt.pX r.1) 3),vI vU (wd (Pt.pY r.1) 0),vI vU (wd (Pt.pY r.1) 1),vI vU (wd (Pt.pY r.1) 2),vI vU (wd (Pt.pY r.1) 3),.bool (Pt.pFar r.1)]] w fun e w' => e = .returned (.tuple #[.agg #[vI vU (wd (Pt.pX (Pt.grp.op q r).1) 0),vI vU (wd (Pt.pX (Pt.grp.op q r).1) 1),vI vU (wd (Pt.pX (Pt.grp.op q r).1) 2),vI vU (wd (Pt.pX (Pt.grp.op q r).1) 3),vI vU (wd (Pt.pY (Pt.grp.op q r).1) 0),vI vU (wd (Pt.pY (Pt.grp.op q r).1) 1),vI vU (wd (Pt.pY (Pt.grp.op q r).1) 2),vI vU (wd (Pt.pY (Pt.grp.op q r).1) 3),.bool (Pt.pFar (Pt.grp.op q r).1)],.nilIface]) ∧ Below w.heap.size w w'
 mulNo : ∀ K X Y f,K < top → X < top → Y < top → onB X Y f = false → ∀ w,I w → Calls Tryz.prog 125 #[.agg #[vI vU (wd K 0),vI vU (wd K 1),vI vU (wd K 2),vI vU (wd K 3)],.agg #[vI vU (wd X 0),vI vU (wd X 1),vI vU (wd X 2),vI vU (wd X 3),vI vU (wd Y 0),vI vU (wd Y 1),vI vU (wd Y 2),vI vU (wd Y 3),.bool (f)]] w fun e w' => e = .returned (.tuple #[.agg #[vI vU 0,vI vU 0,vI vU 0,vI vU 0,vI vU 0,vI vU 0,vI vU 0,vI vU 0,.bool false],.iface 39 (.int .i64 1)]) ∧ Below w.heap.size w w'
 mul : ∀ K,K < top → ∀ q : Pt.Q,∀ w,I w → Calls Tryz.prog 125 #[.agg #[vI vU (wd K 0),vI vU (wd K 1),vI vU (wd K 2),vI vU (wd K 3)],.agg #[vI vU (wd (Pt.pX q.1) 0),vI vU (wd (Pt.pX q.1) 1),vI vU (wd (Pt.pX q.1) 2),vI vU (wd (Pt.pX q.1) 3),vI vU (wd (Pt.pY q.1) 0),vI vU (wd (Pt.pY q.1) 1),vI vU (wd (Pt.pY q.1) 2),vI vU (wd (Pt.pY q.1) 3),.bool (Pt.pFar q.1)]] w fun e w' => e = .returned (.tuple #[.agg #[vI vU (wd (Pt.pX (Pt.grp.mul K q).1) 0),vI vU (wd (Pt.pX (Pt.grp.mul K q).1) 1),vI vU (wd (Pt.pX (Pt.grp.mul K q).1) 2),vI vU (wd (Pt.pX (Pt.grp.mul K q).1) 3),vI vU (wd (Pt.pY (Pt.grp.mul K q).1) 0),vI vU (wd (Pt.pY (Pt.grp.mul K q).1) 1),vI vU (wd (Pt.pY (Pt.grp.mul K q).1) 2),vI vU (wd (Pt.pY (Pt.grp.mul K q).1) 3),.bool (Pt.pFar (Pt.grp.mul K q).1)],.nilIface]) ∧ Below w.heap.size w w'
 base : ∀ w,I w → Calls Tryz.prog 20 #[] w fun e w' => e = .returned (.agg #[vI vU (wd (Pt.gx) 0),vI vU (wd (Pt.gx) 1),vI vU (wd (Pt.gx) 2),vI vU (wd (Pt.gx) 3),vI vU (wd (Pt.gy) 0),vI vU (wd (Pt.gy) 1),vI vU (wd (Pt.gy) 2),vI vU (wd (Pt.gy) 3),.bool (false)]) ∧ Below w.heap.size w w'
 pp : ∀ w,I w → Calls Tryz.prog 109 #[] w fun e w' => e = .returned (.agg #[vI vU (wd (Pt.pp) 0),vI vU (wd (Pt.pp) 1),vI vU (wd (Pt.pp) 2),vI vU (wd (Pt.pp) 3)]) ∧ Below w.heap.size w w'
 nn : ∀ w,I w → Calls Tryz.prog 119 #[] w fun e w' => e = .returned (.agg #[vI vU (wd (Pt.nn) 0),vI vU (wd (Pt.nn) 1),vI vU (wd (Pt.nn) 2),vI vU (wd (Pt.nn) 3)]) ∧ Below w.heap.size w w'
theorem Code.drew {I : World → Prop} (C : Code I) {w : World} (h : I w) : I w.drew:=C.keep _ _ h (Below.refl _ _).drew
theorem Code.alloc {I : World → Prop} (C : Code I) {w : World} (h : I w) (o : Obj) : I (w.alloc o):=C.keep _ _ h ((Below.refl _ _).alloc (Nat.le_refl _) _)
theorem on_base : onB Pt.gx Pt.gy false = true:=by decide +kernel
theorem zeb (n l m : Int) (w : World) : Calls Tryz.prog 117 #[.int .i64 n,.int .i64 l,.int .i64 m] w fun e w' => e = .returned (.bool (decide (l ≤ n) && decide (n ≤ m))) ∧ w' = w:=by
 by_cases g0 : l ≤ n
 ·
  have d0 : decide (l ≤ n) = true:=decide_eq_true g0
  by_cases g1 : n ≤ m
  ·
   have d1 : decide (n ≤ m) = true:=decide_eq_true g1
   rw [show (decide (l ≤ n) && decide (n ≤ m)) = true by rw [d0,d1]; rfl]
   go_enter Tryz.func117,Tryz.ntmps117
   go_wp2
   go_ret
   exact ⟨rfl,rfl⟩
  ·
   have d1 : decide (n ≤ m) = false:=decide_eq_false g1
   rw [show (decide (l ≤ n) && decide (n ≤ m)) = false by rw [d0,d1]; rfl]
   go_enter Tryz.func117,Tryz.ntmps117
   go_wp2
   go_ret
   exact ⟨rfl,rfl⟩
 ·
  have d0 : decide (l ≤ n) = false:=decide_eq_false g0
  rw [show (decide (l ≤ n) && decide (n ≤ m)) = false by rw [d0]; rfl]
  go_enter Tryz.func117,Tryz.ntmps117
  go_wp2
  go_ret
  exact ⟨rfl,rfl⟩
theorem mayT_and (t : Tk) : mayT t = (((((decide (1 ≤ t.s) && decide (t.s ≤ 2147483647)) && (decide (1 ≤ t.p) && decide (t.p ≤ 16))) && (decide (1 ≤ t.z) && decide (t.z ≤ 255))) && (decide (0 ≤ t.f) && decide (t.f ≤ 1073741824))) && (decide (1 ≤ t.k) && decide (t.k ≤ 2147483647))):=by
 unfold mayT
 simp only [Bool.decide_and,Bool.and_assoc]
theorem may9_calls (t : Tk) (w : World) : Calls Tryz.prog 83 #[tkV t] w fun e w' => e = .returned (.bool (mayT t)) ∧ Ext w w':=by
 rw [mayT_and]
 obtain ⟨s,p,z,f,k⟩:=t
 unfold tkV tkC
 have K1:=fun W => zeb s 1 2147483647 W
 have K2:=fun W => zeb p 1 16 W
 have K3:=fun W => zeb z 1 255 W
 have K4:=fun W => zeb f 0 1073741824 W
 have K5:=fun W => zeb k 1 2147483647 W
 simp only []
 generalize (decide (1 ≤ s) && decide (s ≤ 2147483647)) = b1 at *
 generalize (decide (1 ≤ p) && decide (p ≤ 16)) = b2 at *
 generalize (decide (1 ≤ z) && decide (z ≤ 255)) = b3 at *
 generalize (decide (0 ≤ f) && decide (f ≤ 1073741824)) = b4 at *
 generalize (decide (1 ≤ k) && decide (k ≤ 2147483647)) = b5 at *
 have H:=veil (And.intro K1 (And.intro K2 (And.intro K3 (And.intro K4 K5))))
 have HE:=veil (Ext.alloc w (.cells #[.int .i64 s,.int .i64 p,.int .i64 z,.int .i64 f,.int .i64 k] 47))
 clear K1 K2 K3 K4 K5
 cases b1 with
 | false =>
  simp only [Bool.false_and]
  go_enter Tryz.func83,Tryz.ntmps83
  go_wp2_with (go_at_call 117; refine (H.out.1 _).mono ?_; rintro e w1 ⟨rfl,rfl⟩)
  go_ret
  exact ⟨rfl,HE.out⟩
 | true =>
  cases b2 with
  | false =>
   simp only [Bool.and_false,Bool.false_and]
   go_enter Tryz.func83,Tryz.ntmps83
   go_wp2_with (go_at_call 117; first
    | (with_reducible refine (H.out.1 _).mono ?_; rintro e w1 ⟨rfl,rfl⟩)
    | (with_reducible refine (H.out.2.1 _).mono ?_; rintro e w1 ⟨rfl,rfl⟩))
   go_ret
   exact ⟨rfl,HE.out⟩
  | true =>
   cases b3 with
   | false =>
    simp only [Bool.and_false,Bool.false_and]
    go_enter Tryz.func83,Tryz.ntmps83
    go_wp2_with (go_at_call 117; first
     | (with_reducible refine (H.out.1 _).mono ?_; rintro e w1 ⟨rfl,rfl⟩)
     | (with_reducible refine (H.out.2.1 _).mono ?_; rintro e w1 ⟨rfl,rfl⟩)
     | (with_reducible refine (H.out.2.2.1 _).mono ?_; rintro e w1 ⟨rfl,rfl⟩))
    go_ret
    exact ⟨rfl,HE.out⟩
   | true =>
    cases b4 with
    | false =>
     simp only [Bool.and_false,Bool.false_and]
     go_enter Tryz.func83,Tryz.ntmps83
     go_wp2_with (go_at_call 117; first
      | (with_reducible refine (H.out.1 _).mono ?_; rintro e w1 ⟨rfl,rfl⟩)
      | (with_reducible refine (H.out.2.1 _).mono ?_; rintro e w1 ⟨rfl,rfl⟩)
      | (with_reducible refine (H.out.2.2.1 _).mono ?_; rintro e w1 ⟨rfl,rfl⟩)
      | (with_reducible refine (H.out.2.2.2.1 _).mono ?_; rintro e w1 ⟨rfl,rfl⟩))
     go_ret
     exact ⟨rfl,HE.out⟩
    | true =>
     simp only [Bool.true_and]
     go_enter Tryz.func83,Tryz.ntmps83
     go_wp2_with (go_at_call 117; first
      | (with_reducible refine (H.out.1 _).mono ?_; rintro e w1 ⟨rfl,rfl⟩)
      | (with_reducible refine (H.out.2.1 _).mono ?_; rintro e w1 ⟨rfl,rfl⟩)
      | (with_reducible refine (H.out.2.2.1 _).mono ?_; rintro e w1 ⟨rfl,rfl⟩)
      | (with_reducible refine (H.out.2.2.2.1 _).mono ?_; rintro e w1 ⟨rfl,rfl⟩)
      | (with_reducible refine (H.out.2.2.2.2 _).mono ?_; rintro e w1 ⟨rfl,rfl⟩))
     go_ret
     exact ⟨rfl,HE.out⟩
end Go.Proofs.YthlbemnbmbmjhaaGreatDoor
