/-
  Of AutB Au2 AutC Au3 Au4 Add Sub Cmp.
-/
import Derived.Deep.LoopGhost
import Derived.LoopN
import Derived.Test.YtihophdbkjhopaaGreatDoorRows
import Derived.WalkKit
import Derived.WalkSpells
import Derived.WalkLawsBesides
import Derived.Deep.RegionWith
import Derived.Deep.QuietTactic
import Derived.BigQuiet
import Derived.Test.YtihophdbkjhopaaGreatDoorZD3
import Derived.Test.YtihophdbkjhopaaGreatDoorZD1
set_option maxRecDepth 1000000
set_option maxHeartbeats 20000000
namespace Go.Proofs.YtihophdbkjhopaaGreatDoor
open Go.RowKit
open Go.Value renaming int → vI
open Go.IntKind renaming u64 → vU
open Go.Act renaming put → aP
open List renaming setIfInBounds_toArray → lA, set_cons_zero → lZ, set_cons_succ → lS
section
variable {P : Program} {w0 : World} {Q : Exit → Act → World → Prop}
/-! ### memory -/
def cellsOf : SV → List SV
 | .v x => x.cells.toList.map .v
 | .p i o => [.p i o]
def okCell : SV → Bool
 | .v x => x.oneCell'
 | .p _ _ => true
def Sst.wf (s : Sst P w0) : Bool:=(s.t.all fun x => x.2.below s.m.length) && (s.m.all fun b => b.cs.all fun c => c.below s.m.length)
def Sst.new (s : Sst P w0) (o : Oper) (ty : TypeId) (cs : List Value) : Option (Sst P w0) :=
 bif s.wf && Nat.ble s.x s.m.length then
  ({ s with m:=s.m ++ [Blk.mk ty (cs.map SV.v)] }.log (evR s o) (fun _ W => .ok (.value (.pointer (some ⟨W.heap.size,0,none⟩))) (W.alloc (.cells cs.toArray ty)))).put o.dst (.p s.m.length 0)
 else none
def isMem (o : Oper) : Bool:=match o.op with
 | .alloc _ | .box _ _ | .store _ _ _ => true
 | _ => false
def isStore (o : Oper) : Bool:=match o.op with
 | .store _ _ _ => true
 | _ => false
theorem zhg {g k : Nat} (hne : k ≠ g) : ∀ (vs : List Value) (o : Nat) (w : World),(w.setCells g o vs).heap[k]? = w.heap[k]?
 | [],_,_ => rfl
 | _ :: r,o,_ => (zhg hne r (o + 1) _).trans (Below.heap_setCell _ _ _ _ hne)
theorem cells_ext {w : World} {g : Nat} : ∀ (vs : List Value) (o : Nat) {W : World},Ext w W → w.heap.size ≤ g → Ext w (W.setCells g o vs)
 | [],_,_,h,_ => h
 | v :: r,o,_,h,hg => cells_ext r (o + 1) (zag h hg v) hg
theorem row_of_blk {w : World} {g t : Nat} {C : Array Value} (h : w.heap[g]? = some (.cells C t (0,0))) : w.rowIs g t C.size (fun i => C.getD i undef) :=
 ⟨C,h,rfl,fun i hi => by simp [hi]⟩
theorem cells_on {w : World} {g t o : Nat} {C : List Value} {vs : List Value} (h : w.heap[g]? = some (.cells C.toArray t (0,0))) (ho : o + vs.length ≤ C.length) :
  (w.setCells g o vs).heap[g]? = some (.cells (C.take o ++ (vs ++ C.drop (o + vs.length))).toArray t (0,0)):=by
 rw [blkOf (zck vs o w _ (row_of_blk h))]
 congr 2
 refine (zgu ?_ fun i hi => ?_).symm
 ·
  simp; omega
 ·
  have hi' : i < C.length:=by simpa using hi
  by_cases h1 : i < o
  ·
   rw [if_neg (by omega)]
   simp [h1,hi',List.getElem?_append]
   omega
  ·
   by_cases h2 : i < o + vs.length
   ·
    rw [if_pos ⟨by omega,h2⟩]
    have h3 : i - o < vs.length:=by omega
    simp [List.getElem?_append,h1,h3,List.getD_eq_getElem?_getD,show min o C.length = o by omega]
   ·
    rw [if_neg (by omega)]
    simp [List.getElem?_append,h1,hi',show min o C.length = o by omega,show ¬ i - o < vs.length by omega,List.getElem?_drop,show o + vs.length + (i - o - vs.length) = i by omega]
theorem there_blk {w : World} {g t o n : Nat} {C : Array Value} (h : w.heap[g]? = some (.cells C t (0,0))) (ho : o + n ≤ C.size) : w.there g o n:=fun j hj => by
 have r:=row_of_blk h
 exact ⟨by rw [r.cell (show o + j < C.size by omega)]; rfl,r.frozen _⟩
theorem cellsOf_den {e : Nat → Nat} : ∀ (x : SV),(cellsOf x).map (SV.den e) = (x.den e).cells.toList
 | .v x => by simp [cellsOf,SV.den,Function.comp_def]
 | .p i o => rfl
theorem okCell_den {e : Nat → Nat} : ∀ {x : SV},okCell x = true → (x.den e).oneCell' = true
 | .v _,h => h
 | .p _ _,_ => rfl
def upE (e : Nat → Nat) (k g : Nat) : Nat → Nat:=fun j => if j = k then g else e j
theorem obj_vals (e : Nat → Nat) (ty : TypeId) (cs : List Value) : (Blk.mk ty (cs.map SV.v)).obj e = .cells cs.toArray ty (0,0):=by
 unfold Blk.obj
 simp [Function.comp_def,SV.den]
/-! ### a region that draws its order: values in whatever order,then what can come but one by one -/
def isAlloc (o : Oper) : Bool:=match o.op with
 | .alloc _ => true
 | _ => false
def oneB (ops : List Oper) (n k : Nat) (listed : Array Bool) : Bool:=decide (Region.ready .any ops.toArray listed = [k]) && (match ops[k]? with
  | some o => Nat.ble n k || !isStore o
  | none => false)
def pairB (ops : List Oper) (k : Nat) (listed : Array Bool) : Bool :=
 decide (Region.ready .any ops.toArray listed = [k,k + 1]) && (decide (Region.ready .any ops.toArray (listed.setIfInBounds k true) = [k + 1]) && (decide (Region.ready .any ops.toArray (listed.setIfInBounds (k + 1) true) = [k]) &&
  (match ops[k]?,ops[k + 1]? with
  | some o,some o' => isAlloc o && (isAlloc o' && (o.guard.isNone && (o'.guard.isNone && (o.dst.isSome && decide (o.dst ≠ o'.dst)))))
  | _,_ => false)))
def tailB (ops : List Oper) (n : Nat) : Nat → Nat → Array Bool → Bool
 | 0,_,listed => decide (Region.ready .any ops.toArray listed = [])
 | 1,k,listed => oneB ops n k listed && decide (Region.ready .any ops.toArray (listed.setIfInBounds k true) = [])
 | f + 2,k,listed => (oneB ops n k listed && tailB ops n (f + 1) (k + 1) (listed.setIfInBounds k true)) || (pairB ops k listed && tailB ops n f (k + 2) ((listed.setIfInBounds k true).setIfInBounds (k + 1) true))
theorem zji {ops l : List Oper} {k : Nat} {o : Oper} (hd : ops.drop k = o :: l) : ops[k]? = some o ∧ ops.drop (k + 1) = l:=by
 have h1:=congrArg (fun x => x[0]?) hd
 have h2:=congrArg (fun x => x.drop 1) hd
 exact ⟨by simpa using h1,by simpa [List.drop_drop] using h2⟩
/-! ### code -/
inductive Xt where
 | normal
 | exit (id : Nat)
 | ret
def Xt.to : Xt → Exit
 | .normal => .normal
 | .exit id => .exit id
 | .ret => .ret
end
theorem size_cells (g : Nat) : ∀ (vs : List Value) (o : Nat) (w : World),(w.setCells g o vs).heap.size = w.heap.size
 | [],_,_ => rfl
 | v :: r,o,w => by rw [World.setCells,size_cells g r]; simp
section
variable {P : Program} {w0 : World} {Post : Value → World → Prop} {J : World → Prop} {Q : Exit → Act → World → Prop}
def Sta.wf (s : Sta P w0 Post J) : Bool:=(s.t.all fun x => x.2.below s.m.length) && (s.m.all fun b => b.cs.all fun c => c.below s.m.length)
def Sta.new (s : Sta P w0 Post J) (o : Oper) (ty : TypeId) (cs : List Value) (k : Sta P w0 Post J → Rsl) : Rsl :=
 bif s.wf then
  .eq (stR s o) (fun _ W => .ok (.value (.pointer (some ⟨W.heap.size,0,none⟩))) (W.alloc (.cells cs.toArray ty)))
   ({ s with m:=s.m ++ [Blk.mk ty (cs.map SV.v)] }.put o.dst (.p s.m.length 0) k)
 else .bad
def stMem (s : Sta P w0 Post J) (o : Oper) (k : Sta P w0 Post J → Rsl) : Rsl :=
 match o.op with
 | .alloc ty => match P.info? ty with
  | some inf => match inf.zero with
   | some z => s.new o ty z.cells.toList k
   | none => .bad
  | none => .bad
 | .box ty x => match stX s x with
  | .v val => s.new o ty val.cells.toList k
  | .p _ _ => .bad
 | .store ty x y => match stX s x with
  | .p i off => match s.m[i]?,P.info? ty with
   | some b,some inf =>
    bif Nat.ble s.x i && (Nat.beq (cellsOf (stX s y)).length inf.size && (Nat.ble (off + (cellsOf (stX s y)).length) b.cs.length && (cellsOf (stX s y)).all okCell)) then
     { s with m:=s.m.set i ⟨b.ty,b.cs.take off ++ (cellsOf (stX s y) ++ b.cs.drop (off + (cellsOf (stX s y)).length))⟩ }.put o.dst (.v undef) k
    else .bad
   | _,_ => .bad
  | .v _ => .bad
 | _ => .bad
def stStep (s : Sta P w0 Post J) (o : Oper) (k : Sta P w0 Post J → Rsl) : Rsl:=bif isMem o then stMem s o k else stVal s o k
def stOps (ops : List Oper) : List Oper → Sta P w0 Post J → (Sta P w0 Post J → Rsl) → Rsl
 | [],s,k => k s
 | o :: l,s,k => match stWant s ops o with
  | some true => stStep s o fun s1 => stOps ops l s1 k
  | some false => s.put o.dst (.v undef) fun s1 => stOps ops l s1 k
  | none => .bad
variable {s : Sta P w0 Post J} {a : Act} {e : Nat → Nat} {w : World} {o : Oper} {k : Sta P w0 Post J → Rsl}
theorem lookZ_below {z : Nat → Value} {n : Nat} : ∀ {l : List (Nat × SV)} {i : Nat},(∀ x ∈ l,x.2.below n = true) → (lookZ z l i).below n = true
 | [],_,_ => rfl
 | x :: r,i,h => by
  show (lookZ z ((x.1,x.2) :: r) i).below _ = true
  rw [zfv]
  split
  ·
   exact h _ List.mem_cons_self
  ·
   exact lookZ_below fun y hy => h y (List.mem_cons_of_mem _ hy)
theorem Rl.lt (hR : Rl s a e w) {i : Nat} (hi : i < s.m.length) : e i < w.heap.size:=(Array.getElem?_eq_some_iff.1 (hR.blk i _ (List.getElem?_eq_getElem hi))).1
theorem rl_add {g : Nat} {b : Blk} (hR : Rl s a e w) (hwf : s.wf = true) (hg : w.heap[g]? = some (b.obj (upE e s.m.length g))) (ho : w0.heap.size ≤ g) (hne : ∀ i,i < s.m.length → e i ≠ g) (hj : ∀ W o vs,J W → J (W.setCells g o vs)) :
  Rl { s with m:=s.m ++ [b] } a (upE e s.m.length g) w:=by
 unfold Sta.wf at hwf
 rw [Bool.and_eq_true,List.all_eq_true,List.all_eq_true] at hwf
 have hlow : ∀ i,i < s.m.length → upE e s.m.length g i = e i:=fun i hi => if_neg (by omega)
 have hnew : upE e s.m.length g s.m.length = g:=if_pos rfl
 refine ⟨hR.size,hR.defers,fun i => ?_,fun i b' hb => ?_,fun i h1 h2 => ?_,fun i j h1 h2 h3 h4 => ?_,hR.ext,hR.jj,hR.jx,fun i h1 h2 => ?_,hR.jf⟩
 ·
  rw [hR.slot i]
  exact (den_env hlow (lookZ_below hwf.1)).symm
 ·
  have hb : (s.m ++ [b])[i]? = some b':=hb
  by_cases hi : i < s.m.length
  ·
   rw [List.getElem?_append_left hi] at hb
   rw [hlow i hi,hR.blk i b' hb]
   unfold Blk.obj
   congr 3
   refine List.map_congr_left fun c hc => ?_
   have:=List.all_eq_true.1 (hwf.2 b' (List.mem_of_getElem? hb)) c hc
   exact (den_env hlow this).symm
  ·
   rw [List.getElem?_append_right (by omega)] at hb
   have hi0 : i - s.m.length = 0:=by
    have:=(List.getElem?_eq_some_iff.1 hb).1
    simpa using this
   rw [hi0] at hb
   obtain rfl : b = b':=by simpa using hb
   obtain rfl : i = s.m.length:=by omega
   rw [hnew]
   exact hg
 ·
  have h2 : i < s.m.length + 1:=by simpa using h2
  by_cases hi : i < s.m.length
  ·
   rw [hlow i hi]; exact hR.own i h1 hi
  ·
   obtain rfl : i = s.m.length:=by omega
   rw [hnew]; exact ho
 ·
  have h2 : i < s.m.length + 1:=by simpa using h2
  have h3 : j < s.m.length + 1:=by simpa using h3
  by_cases hi : i < s.m.length
  ·
   by_cases hj : j < s.m.length
   ·
    rw [hlow i hi,hlow j hj]; exact hR.far i j h1 hi hj h4
   ·
    obtain rfl : j = s.m.length:=by omega
    rw [hlow i hi,hnew]
    exact hne i hi
  ·
   obtain rfl : i = s.m.length:=by omega
   have hj : j < s.m.length:=by omega
   rw [hlow j hj,hnew]
   exact (hne j hj).symm
 ·
  have h2 : i < s.m.length + 1:=by simpa using h2
  by_cases hi : i < s.m.length
  ·
   rw [hlow i hi]; exact hR.jo i h1 hi
  ·
   obtain rfl : i = s.m.length:=by omega
   rw [hnew]; exact hj
theorem zfd {ty : TypeId} {cs : List Value} (hk : OkR (s.new o ty cs k)) : s.wf = true ∧ stR s o = (fun _ W => .ok (.value (.pointer (some ⟨W.heap.size,0,none⟩))) (W.alloc (.cells cs.toArray ty))) ∧ OkR ({ s with m:=s.m ++ [Blk.mk ty (cs.map SV.v)] }.put o.dst (.p s.m.length 0) k):=by
 unfold Sta.new at hk
 cases hw : s.wf with
 | false => rw [hw] at hk; exact hk.elim
 | true =>
  rw [hw] at hk
  exact ⟨rfl,hk.1,hk.2⟩
theorem zha {ty : TypeId} {cs : List Value} (hk : OkR (s.new o ty cs k)) {g : Nat} (hR : Rl s a e w) (hg : w.heap[g]? = some (.cells cs.toArray ty (0,0))) (ho : w0.heap.size ≤ g) (hne : ∀ i,i < s.m.length → e i ≠ g) (hj : ∀ W o vs,J W → J (W.setCells g o vs)) :
  ∃ s' : Sta P w0 Post J,OkR (k s') ∧ Rl s' (a.put o.dst (.pointer (some ⟨g,0,none⟩))) (upE e s.m.length g) w ∧ s'.m = s.m ++ [Blk.mk ty (cs.map SV.v)]:=by
 obtain ⟨hwf,_,hp⟩:=zfd hk
 have h:=rl_add (b:=Blk.mk ty (cs.map SV.v)) hR hwf (by rw [obj_vals]; exact hg) ho hne hj
 obtain ⟨s',h1,h2,h3,_⟩:=h.put (x:=.p s.m.length 0) (v:=.pointer (some ⟨g,0,none⟩)) hp (by show Value.pointer (some ⟨upE e s.m.length g s.m.length,0,none⟩) = _; rw [show upE e s.m.length g s.m.length = g from if_pos rfl])
 exact ⟨s',h1,h2,h3⟩
theorem stnew_sound {ty : TypeId} {cs : List Value} (hk : OkR (s.new o ty cs k)) (hR : Rl s a e w) {K : Act → World → Prop} (hK : ∀ s' a' e' w',OkR (k s') → Rl s' a' e' w' → Ext w w' → K a' w') : o.wp P a w K Q:=by
 obtain ⟨_,h1,_⟩:=zfd hk
 have hrun:=congrFun (congrFun h1 e) w
 unfold Oper.wp
 rw [hR.exec,hrun,Oper.upon_value]
 have hE:=Ext.alloc w (.cells cs.toArray ty)
 obtain ⟨s',h2,h3,_⟩:=zha hk (hR.more hE) (zad _ _) (Below.size hR.ext) (fun i hi => by have:=hR.lt hi; omega) (hR.jf _ (Nat.le_refl _))
 exact hK s' _ _ _ h2 h3 hE
theorem stmem_sound (hk : OkR (stMem s o k)) (hR : Rl s a e w) {K : Act → World → Prop} (hK : ∀ s' a' e' w',OkR (k s') → Rl s' a' e' w' → (isStore o = false → Ext w w') → K a' w') : o.wp P a w K Q:=by
 unfold stMem at hk
 split at hk
 ·
  split at hk
  ·
   split at hk
   ·
    exact stnew_sound hk hR fun s' a' e' w' h1 h2 h3 => hK s' a' e' w' h1 h2 fun _ => h3
   ·
    exact hk.elim
  ·
   exact hk.elim
 ·
  split at hk
  ·
   exact stnew_sound hk hR fun s' a' e' w' h1 h2 h3 => hK s' a' e' w' h1 h2 fun _ => h3
  ·
   exact hk.elim
 ·
  rename_i ty x y ho
  split at hk
  ·
   rename_i i off hx
   split at hk
   ·
    rename_i b inf hb hi
    obtain ⟨cs,hcs⟩ : ∃ cs,cs = cellsOf (stX s y):=⟨_,rfl⟩
    rw [← hcs] at hk
    cases hc : (Nat.ble s.x i && (Nat.beq cs.length inf.size && (Nat.ble (off + cs.length) b.cs.length && cs.all okCell))) with
    | false => rw [hc] at hk; exact hk.elim
    | true =>
     rw [hc] at hk
     simp only [cond_true] at hk
     simp only [Bool.and_eq_true] at hc
     obtain ⟨c1,c2,c3,c4⟩:=hc
     have c1:=Nat.le_of_ble_eq_true c1
     have c2:=Nat.eq_of_beq_eq_true c2
     have c3:=Nat.le_of_ble_eq_true c3
     have hst : isStore o = true:=by unfold isStore; rw [ho]
     have hblk:=hR.blk i b hb
     have hil : i < s.m.length:=(List.getElem?_eq_some_iff.1 hb).1
     have hden:=cellsOf_den (e:=e) (stX s y)
     rw [← hcs] at hden
     have hlen : ((stX s y).den e).cells.size = cs.length:=by
      have:=congrArg List.length hden
      simpa using this.symm
     have hrun:=run_storeAt_mid (P:=P) w (e i) off ty ((stX s y).den e).cells (there_blk hblk (by rw [hlen]; simpa using c3)) (by rw [hi,hlen,c2]; rfl) (by
      rw [← Array.all_toList,← hden,List.all_map]
      exact List.all_eq_true.2 fun c hc => okCell_den (List.all_eq_true.1 c4 c hc))
     have hrun2 : (execOp a.eval o).run P w = .ok .skip (w.setCells (e i) off ((stX s y).den e).cells.toList):=by
      have hxa : a.eval x = .pointer (some ⟨e i,off,none⟩):=by rw [hR.eval]; show (stX s x).den e = _; rw [hx]; rfl
      have hya : a.eval y = (stX s y).den e:=by rw [hR.eval]
      unfold execOp
      simp only [ho,hxa,hya,Sem.run_bind]
      rw [show Instr.storeAt ty (.pointer (some ⟨e i,off,none⟩)) ((stX s y).den e) = Instr.storeAt ty (.pointer (some ⟨e i,off,none⟩)) (.agg ((stX s y).den e).cells) from rfl,hrun]
      simp
     unfold Oper.wp
     rw [hrun2,Oper.upon_skip]
     rw [← hden]
     have hown:=hR.own i c1 hil
     have hsize : w.heap.size ≤ (w.setCells (e i) off (cs.map (SV.den e))).heap.size:=Nat.le_of_eq (size_cells _ _ _ _).symm
     have hR2 : Rl { s with m:=s.m.set i ⟨b.ty,b.cs.take off ++ (cs ++ b.cs.drop (off + cs.length))⟩ } a e (w.setCells (e i) off (cs.map (SV.den e))):=by
      refine ⟨hR.size,hR.defers,hR.slot,fun j b' hb' => ?_,fun j h1 h2 => hR.own j h1 (by simpa using h2),fun j k h1 h2 h3 h4 => hR.far j k h1 (by simpa using h2) (by simpa using h3) h4,cells_ext _ _ hR.ext hown,hR.jo i c1 hil _ _ _ hR.jj,hR.jx,fun j h1 h2 => hR.jo j h1 (by simpa using h2),fun g hg => hR.jf g (Nat.le_trans hsize hg)⟩
      have hb' : (s.m.set i ⟨b.ty,b.cs.take off ++ (cs ++ b.cs.drop (off + cs.length))⟩)[j]? = some b':=hb'
      by_cases hj : j = i
      ·
       subst hj
       rw [List.getElem?_set_self hil] at hb'
       obtain rfl:=Option.some.inj hb'
       unfold Blk.obj at hblk ⊢
       rw [cells_on hblk (by simpa using c3)]
       simp only [List.map_append,List.map_take,List.map_drop,List.length_map]
      ·
       rw [List.getElem?_set_ne (Ne.symm hj)] at hb'
       have hjl : j < s.m.length:=(List.getElem?_eq_some_iff.1 hb').1
       rw [zhg (fun h => hR.far i j c1 hil hjl (Ne.symm hj) h.symm)]
       exact hR.blk j b' hb'
     obtain ⟨s',h1,h2,_⟩:=hR2.put hk rfl
     exact hK s' _ e _ h1 h2 fun h => by rw [hst] at h; cases h
   ·
    exact hk.elim
  ·
   exact hk.elim
 ·
  exact hk.elim
theorem zdv (hk : OkR (stStep s o k)) (hR : Rl s a e w) {K : Act → World → Prop} (hK : ∀ s' a' e' w',OkR (k s') → Rl s' a' e' w' → (isStore o = false → Ext w w') → K a' w') : o.wp P a w K Q:=by
 unfold stStep at hk
 cases hm : isMem o with
 | true =>
  rw [hm] at hk
  exact stmem_sound hk hR hK
 | false =>
  rw [hm] at hk
  obtain ⟨v,s',hmd,hR1,h1⟩:=stval_sound hk hR
  exact hmd.wp (Ext.refl w) fun W' hW' => hK s' _ e W' h1 (hR1.more hW') fun _ => hW'
theorem stalloc_cut (ha : isAlloc o = true) (hk : OkR (stStep s o k)) : ∃ ty cs,o.op = .alloc ty ∧ OkR (s.new o ty cs k):=by
 unfold isAlloc at ha
 split at ha
 ·
  rename_i ty ho
  have hm : isMem o = true:=by unfold isMem; rw [ho]
  unfold stStep at hk
  rw [hm] at hk
  simp only [cond_true] at hk
  unfold stMem at hk
  rw [ho] at hk
  simp only at hk
  split at hk
  ·
   split at hk
   ·
    exact ⟨ty,_,ho,hk⟩
   ·
    exact hk.elim
  ·
   exact hk.elim
 ·
  cases ha
theorem zfn {ty : TypeId} {cs : List Value} (ho : o.op = .alloc ty) (hk : OkR (s.new o ty cs k)) {a : Act} {W : World} {K : Act → World → Prop} (h : K (a.put o.dst (.pointer (some ⟨W.heap.size,0,none⟩))) (W.alloc (.cells cs.toArray ty))) : o.wp P a W K Q:=by
 obtain ⟨_,h1,_⟩:=zfd hk
 have hrun:=congrFun (congrFun h1 fun _ => 0) W
 have e : execOp a.eval o = execOp (fun x => (stX s x).den fun _ => 0) o:=by
  unfold execOp
  simp only [ho]
 unfold Oper.wp
 rw [e,show (execOp (fun x => (stX s x).den fun _ => 0) o).run P W = _ from hrun,Oper.upon_value]
 exact h
theorem stone_wp {ops : List Oper} {n i : Nat} {listed : Array Bool} {l : List Oper} (ho : ops[i]? = some o) (hB : oneB ops n i listed = true) (h : OkR (stOps ops (o :: l) s k)) (hR : Rl s a e w)
  (hnext : ∀ {s1 : Sta P w0 Post J} {a' e' w'},OkR (stOps ops l s1 k) → Rl s1 a' e' w' → wpG P .any ops.toArray Q n l.length (listed.setIfInBounds i true) a' w') : wpG P .any ops.toArray Q n (o :: l).length listed a w:=by
 unfold oneB at hB
 rw [ho] at hB
 simp only [Bool.and_eq_true,decide_eq_true_eq] at hB
 obtain ⟨hr,hn⟩:=hB
 refine ⟨fun h0 => (by rw [hr] at h0; cases h0),fun j hj W hW => ?_⟩
 rw [hr] at hj
 obtain rfl : j = i:=by simpa using hj
 have hRW:=hR.more hW
 have hkeep : j < n → isStore o = false:=fun hlt => by
  cases hs : isStore o with
  | false => rfl
  | true =>
   rw [hs] at hn
   have : n ≤ j:=by simpa using hn
   omega
 unfold stOps at h
 refine wpOp_step (by simpa using ho) fun K hK' => ?_
 split at h
 ·
  rename_i hw
  rw [if_pos (zbn hw hRW)]
  exact zdv h hRW fun s' a' e' w' h0 h1 h2 => hK' _ _ ⟨fun hlt => h2 (hkeep hlt),hnext h0 h1⟩
 ·
  rename_i hw
  rw [if_neg (by rw [zbn hw hRW]; exact Bool.false_ne_true)]
  obtain ⟨s',h1,h2,_⟩:=hRW.put h rfl
  exact hK' _ _ ⟨fun _ => Ext.refl _,hnext h1 h2⟩
 ·
  exact h.elim
theorem stplain {ops : List Oper} {l : List Oper} (hg : o.guard.isNone = true) (h : OkR (stOps ops (o :: l) s k)) : OkR (stStep s o fun s1 => stOps ops l s1 k):=by
 unfold stOps at h
 have hw : stWant s ops o = some true:=by
  unfold stWant
  rw [Option.isNone_iff_eq_none.1 hg]
 rw [hw] at h
 exact h
theorem zgz {ops : List Oper} {n : Nat} : ∀ {l : List Oper} {i : Nat} {listed : Array Bool} {s : Sta P w0 Post J} {a : Act} {e : Nat → Nat} {w : World},ops.drop i = l → tailB ops n l.length i listed = true → OkR (stOps ops l s k) → Rl s a e w →
  (∀ s' a' e' w',OkR (k s') → Rl s' a' e' w' → Q .normal a' w') → wpG P .any ops.toArray Q n l.length listed a w
 | [],i,listed,s,a,e,w,_,hB,h,hR,hK => ⟨of_decide_eq_true hB,fun W hW => hK s a e W h (hR.more hW)⟩
 | [o],i,listed,s,a,e,w,hd,hB,h,hR,hK => by
  have hB : (oneB ops n i listed && decide (Region.ready .any ops.toArray (listed.setIfInBounds i true) = [])) = true:=hB
  rw [Bool.and_eq_true] at hB
  exact stone_wp (zji hd).1 hB.1 h hR fun h1 hR1 => zgz (l:=[]) (zji hd).2 hB.2 h1 hR1 hK
 | o :: o' :: l,i,listed,s,a,e,w,hd,hB,h,hR,hK => by
  have hB : ((oneB ops n i listed && tailB ops n (l.length + 1) (i + 1) (listed.setIfInBounds i true)) || (pairB ops i listed && tailB ops n l.length (i + 2) ((listed.setIfInBounds i true).setIfInBounds (i + 1) true))) = true:=hB
  obtain ⟨ho,hd'⟩:=zji hd
  obtain ⟨ho',hd''⟩:=zji hd'
  rw [Bool.or_eq_true,Bool.and_eq_true,Bool.and_eq_true] at hB
  rcases hB with ⟨h1,h2⟩ | ⟨h1,h2⟩
  ·
   exact stone_wp ho h1 h hR fun h3 hR1 => zgz (l:=o' :: l) hd' h2 h3 hR1 hK
  ·
   unfold pairB at h1
   rw [ho,ho'] at h1
   simp only [Bool.and_eq_true,decide_eq_true_eq] at h1
   obtain ⟨r1,r2,r3,ha,ha',hg,hg',_,hne⟩:=h1
   have h:=stplain hg h
   obtain ⟨ty,cs,hty,hn1⟩:=stalloc_cut ha h
   -- the second one,behind the first wherever that lies
   have hsec : ∀ {s1 : Sta P w0 Post J},OkR (stOps ops (o' :: l) s1 k) → ∃ ty' cs',o'.op = .alloc ty' ∧ OkR (s1.new o' ty' cs' fun s2 => stOps ops l s2 k):=fun hh => by
    obtain ⟨ty',cs',h1,h2⟩:=stalloc_cut ha' (stplain hg' hh)
    exact ⟨ty',cs',h1,h2⟩
   have hw0:=Below.size hR.ext
   -- what it makes hangs on its type alone
   obtain ⟨s1,hk1,_,hm1⟩:=zha (g:=w.heap.size) hn1 (hR.more (Ext.alloc w (.cells cs.toArray ty))) (zad _ _) hw0 (fun i hi => by have:=hR.lt hi; omega) (hR.jf _ (Nat.le_refl _))
   obtain ⟨ty',cs',hty',hn2⟩:=hsec hk1
   have fin : ∀ {g g' : Nat} {W : World},Ext w W → W.heap[g]? = some (.cells cs.toArray ty (0,0)) → W.heap[g']? = some (.cells cs'.toArray ty' (0,0)) → w.heap.size ≤ g → w.heap.size ≤ g' → g ≠ g' →
     wpG P .any ops.toArray Q n l.length ((listed.setIfInBounds i true).setIfInBounds (i + 1) true) ((a.put o.dst (.pointer (some ⟨g,0,none⟩))).put o'.dst (.pointer (some ⟨g',0,none⟩))) W:=fun {g g' W} hW b1 b2 g1 g2 gn => by
    obtain ⟨s2,hk2,R1,hm2⟩:=zha (g:=g) hn1 (hR.more hW) b1 (Nat.le_trans hw0 g1) (fun i hi => by have:=hR.lt hi; omega) (hR.jf _ g1)
    obtain ⟨ty2,cs2,hty2,hn3⟩:=hsec hk2
    obtain rfl : ty' = ty2:=by rw [hty'] at hty2; injection hty2
    have hcs : cs'.toArray = cs2.toArray:=by
     have e1:=congrFun (congrFun (zfd hn2).2.1 fun _ => 0) w
     have e2:=congrFun (congrFun (zfd hn3).2.1 fun _ => 0) w
     have e3 : stR s1 o' (fun _ => 0) w = stR s2 o' (fun _ => 0) w:=by
      unfold stR execOp
      simp only [hty']
     rw [e1,e2] at e3
     injection e3 with _ e4
     have:=congrArg (fun W => W.heap[w.heap.size]?) e4
     rw [zad,zad] at this
     injection this with this
     injection this
    obtain ⟨s3,hk3,R2,_⟩:=zha (g:=g') hn3 R1 (by rw [← hcs]; exact b2) (Nat.le_trans hw0 g2) (fun i hi => by
     rw [hm2,List.length_append] at hi
     unfold upE
     by_cases hil : i = s.m.length
     ·
      rw [if_pos hil]; exact gn
     ·
      rw [if_neg hil]
      have:=hR.lt (show i < s.m.length by simp only [List.length_cons,List.length_nil] at hi; omega)
      omega) (hR.jf _ g2)
    exact zgz hd'' h2 hk3 R2 hK
   refine ⟨fun h0 => (by rw [r1] at h0; cases h0),fun j hj W hW => ?_⟩
   rw [r1] at hj
   have hi2 : j = i ∨ j = i + 1:=by simpa using hj
   rcases hi2 with rfl | rfl
   ·
    refine zaw (by simpa using ho) (Option.isNone_iff_eq_none.1 hg) (zfn hty hn1 ⟨fun _ => Ext.alloc _ _,?_⟩)
    refine ⟨fun h0 => (by rw [r2] at h0; cases h0),fun i hi W1 hW1 => ?_⟩
    rw [r2] at hi
    obtain rfl : i = j + 1:=by simpa using hi
    refine zaw (by simpa using ho') (Option.isNone_iff_eq_none.1 hg') (zfn hty' hn2 ⟨fun _ => Ext.alloc _ _,?_⟩)
    have z1:=Below.size hW
    have z2:=Below.size hW1
    simp only [World.size_alloc] at z2
    exact fin ((hW.trans (Ext.alloc _ _)).trans (hW1.trans (Ext.alloc _ _))) ((hW1.trans (Ext.alloc _ _)).block (zad _ _)) (zad _ _) z1 (by omega) (by omega)
   ·
    refine zaw (by simpa using ho') (Option.isNone_iff_eq_none.1 hg') (zfn hty' hn2 ⟨fun _ => Ext.alloc _ _,?_⟩)
    refine ⟨fun h0 => (by rw [r3] at h0; cases h0),fun j hj W1 hW1 => ?_⟩
    rw [r3] at hj
    obtain rfl : j = i:=by simpa using hj
    refine zaw (by simpa using ho) (Option.isNone_iff_eq_none.1 hg) (zfn hty hn1 ⟨fun _ => Ext.alloc _ _,?_⟩)
    have z1:=Below.size hW
    have z2:=Below.size hW1
    simp only [World.size_alloc] at z2
    rw [Array.setIfInBounds_comm _ _ (by omega),Act.put_comm a _ _ (fun d h0 h1 => hne (by rw [h0,h1]))]
    exact fin ((hW.trans (Ext.alloc _ _)).trans (hW1.trans (Ext.alloc _ _))) (zad _ _) ((hW1.trans (Ext.alloc _ _)).block (zad _ _)) (by omega) z1 (by omega)
def allR : List Rsl → Rsl
 | [] => .bad
 | [a] => a
 | a :: l => .both a (allR l)
theorem allR_of : ∀ {l : List Rsl},OkR (allR l) → ∀ r ∈ l,OkR r
 | [],h,_,_ => h.elim
 | [a],h,r,hr => by
  obtain rfl : r = a:=by simpa using hr
  exact h
 | a :: b :: l,h,r,hr => by
  rcases List.mem_cons.1 hr with rfl | hr
  ·
   exact h.1
  ·
   exact allR_of h.2 r hr
theorem allR_ne : ∀ {l : List Rsl},OkR (allR l) → l ≠ []
 | [],h,_ => h.elim
def stTree (ops : List Oper) (n : Nat) : Nat → Array Bool → Sta P w0 Post J → (Sta P w0 Post J → Rsl) → Rsl
 | 0,listed,s,k => bif decide (Region.ready .any ops.toArray listed = []) then k s else .bad
 | f + 1,listed,s,k => allR ((Region.ready .any ops.toArray listed).map fun i => match ops[i]? with
   | some o => bif Nat.ble n i || !isStore o then (match stWant s ops o with
    | some true => stStep s o fun s1 => stTree ops n f (listed.setIfInBounds i true) s1 k
    | some false => s.put o.dst (.v undef) fun s1 => stTree ops n f (listed.setIfInBounds i true) s1 k
    | none => .bad) else .bad
   | none => .bad)
theorem zgy {ops : List Oper} {n : Nat} : ∀ {f : Nat} {listed : Array Bool} {s : Sta P w0 Post J} {a : Act} {e : Nat → Nat} {w : World},OkR (stTree ops n f listed s k) → Rl s a e w →
  (∀ s' a' e' w',OkR (k s') → Rl s' a' e' w' → Q .normal a' w') → wpG P .any ops.toArray Q n f listed a w
 | 0,listed,s,a,e,w,h,hR,hK => by
  unfold stTree at h
  cases hc : decide (Region.ready .any ops.toArray listed = []) with
  | false => rw [hc] at h; exact h.elim
  | true => rw [hc] at h; exact ⟨of_decide_eq_true hc,fun W hW => hK s a e W h (hR.more hW)⟩
 | f + 1,listed,s,a,e,w,h,hR,hK => by
  unfold stTree at h
  refine ⟨fun h0 => (allR_ne h (by rw [h0]; rfl)).elim,fun i hi W hW => ?_⟩
  have h:=allR_of h _ (List.mem_map_of_mem hi)
  have hRW:=hR.more hW
  split at h
  ·
   rename_i o ho
   cases hn : (Nat.ble n i || !isStore o) with
   | false => rw [hn] at h; exact h.elim
   | true =>
    rw [hn] at h
    have hkeep : i < n → isStore o = false:=fun hlt => by
     cases hs : isStore o with
     | false => rfl
     | true =>
      rw [hs] at hn
      have : n ≤ i:=by simpa using hn
      omega
    refine wpOp_step (by simpa using ho) fun K hK' => ?_
    simp only [cond_true] at h
    split at h
    ·
     rename_i hw
     rw [if_pos (zbn hw hRW)]
     exact zdv h hRW fun s' a' e' w' h0 h1 h2 => hK' _ _ ⟨fun hlt => h2 (hkeep hlt),zgy h0 h1 hK⟩
    ·
     rename_i hw
     rw [if_neg (by rw [zbn hw hRW]; exact Bool.false_ne_true)]
     obtain ⟨s',h1,h2,_⟩:=hRW.put h rfl
     exact hK' _ _ ⟨fun _ => Ext.refl _,zgy h1 h2 hK⟩
    ·
     exact h.elim
  ·
   exact h.elim
def findM (ops : List Oper) (n : Nat) : Nat → Nat
 | 0 => 0
 | k + 1 => bif madeB ops (k + 1) n then k + 1 else findM ops n k
def stDraw (ops : List Oper) (s : Sta P w0 Post J) (k : Sta P w0 Post J → Rsl) : Rsl :=
 let n:=(ops.takeWhile fun o => !isStore o).length
 let m:=findM ops n (ops.takeWhile fun o => !isMem o).length
 bif P.follows .mixedOrders && madeB ops m n then
  stVals ops (ops.take m) s fun s1 => bif tailB ops n (ops.drop m).length m (marked m 0 (Array.replicate ops.length false)) then stOps ops (ops.drop m) s1 k
   else stTree ops n (ops.drop m).length (marked m 0 (Array.replicate ops.length false)) s1 k
 else bif P.follows .mixedOrders then stTree ops n ops.length (Array.replicate ops.length false) s k else .bad
theorem stdraw_wp {id : Nat} {ops : List Oper} (h : OkR (stDraw ops s k)) (hR : Rl s a e w) (hK : ∀ s' a' e' w',OkR (k s') → Rl s' a' e' w' → Q .normal a' w') : (Code.region id ops.toArray true).wp P Q a w:=by
 unfold stDraw at h
 simp only at h
 obtain ⟨n,hn⟩ : ∃ n,n = (ops.takeWhile fun o => !isStore o).length:=⟨_,rfl⟩
 rw [← hn] at h
 obtain ⟨m,hm⟩ : ∃ m,m = findM ops n (ops.takeWhile fun o => !isMem o).length:=⟨_,rfl⟩
 rw [← hm] at h
 cases hc : (P.follows .mixedOrders && madeB ops m n) with
 | false =>
  rw [hc] at h
  simp only [cond_false] at h
  cases hm : P.follows .mixedOrders with
  | false => rw [hm] at h; exact h.elim
  | true =>
   rw [hm] at h
   refine wp_region_noPanic (wp_region_any hm (zee (n:=n) _ _ _ _ ?_))
   have H:=wpG.ext (zgy (Q:=NoPanic Q) h hR fun s2 a2 e2 w2 h2 h3 => hK s2 a2 e2 w2 h2 h3) (Ext.drew w)
   simpa using H
 | true =>
  rw [hc] at h
  simp only [cond_true] at h
  simp only [Bool.and_eq_true] at hc
  refine wp_region_noPanic (zed n hc.1 hc.2 (fun _ _ _ _ _ h => h) (stvals_mk h hR fun s1 a' h1 hR1 => ?_))
  unfold Rest
  cases ht : tailB ops n (ops.drop m).length m (marked m 0 (Array.replicate ops.length false)) with
  | false =>
   rw [ht] at h1
   have:=zgy (Q:=NoPanic Q) h1 hR1 fun s2 a2 e2 w2 h2 h3 => hK s2 a2 e2 w2 h2 h3
   rwa [List.length_drop] at this
  | true =>
   rw [ht] at h1
   have:=zgz (Q:=NoPanic Q) rfl ht h1 hR1 fun s2 a2 e2 w2 h2 h3 => hK s2 a2 e2 w2 h2 h3
   rwa [List.length_drop] at this
end
section
variable {P : Program} {w0 : World}
def rvRun (tmps : Array Value) : ResultVar → Sem Value
 | .tmp t => pure (tmps.getD t undef)
 | .cell a t => do loadVar t (← asAddr (tmps.getD a undef))
theorem results_rv (fn : Func) (tmps : Array Value) : results fn tmps = (do let vs ← fn.results.mapM (rvRun tmps); pure (if h : vs.size = 1 then vs[0] else .tuple vs)):=by
 unfold results
 congr 1
def enumS : Nat → List SV → List (Nat × SV)
 | _,[] => []
 | k,x :: r => (k,x) :: enumS (k + 1) r
def start (P : Program) (w0 : World) (fn : Func) (args : List SV) (m : List Blk) (q : List (Orc P w0)) : Sst P w0 :=
 {n:=args.length + (fn.ntmps - args.length),t:=enumS 0 args,m:=m,x:=m.length,q:=q,g:=[] }
end
section
variable {P : Program} {w0 : World} {Post : Value → World → Prop} {J : World → Prop} {Q : Exit → Act → World → Prop}
abbrev Nx (P : Program) (w0 : World) (Post : Value → World → Prop):=(J : World → Prop) → Sta P w0 Post J → Rsl
def isGoCall (o : Oper) : Bool:=match o.op with
 | .call c => match c.callee with
  | .builtin _ => false
  | _ => true
 | _ => false
def stAny (s : Sta P w0 Post J) (o : Oper) (k : Nx P w0 Post) : Rsl :=
 match s.q with
 | .hang f args val R _ _ _ _ r => bif isGoCall o then
   .eq (stR s o) (fun _ W => .ok (.enter f args) W) (.br fun x => Sta.put (J:=fun W => J W ∧ R x W) ⟨s.n,s.t,s.z,s.m,s.x,r x⟩ o.dst (.v (val x)) (k _))
  else stStep s o (k J)
 | _ => stStep s o (k J)
def stOpsH (ops : List Oper) : List Oper → (J : World → Prop) → Sta P w0 Post J → Nx P w0 Post → Rsl
 | [],J,s,k => k J s
 | o :: l,J,s,k => match stWant s ops o with
  | some true => stAny s o fun J' s1 => stOpsH ops l J' s1 k
  | some false => s.put o.dst (.v undef) fun s1 => stOpsH ops l J s1 k
  | none => .bad
theorem stany_sound {s : Sta P w0 Post J} {o : Oper} {k : Nx P w0 Post} {a : Act} {e : Nat → Nat} {w : World} (hk : OkR (stAny s o k)) (hR : Rl s a e w) {K : Act → World → Prop}
  (hK : ∀ (J' : World → Prop) (s' : Sta P w0 Post J') a' e' w',OkR (k J' s') → Rl s' a' e' w' → K a' w') : o.wp P a w K Q:=by
 unfold stAny at hk
 split at hk
 ·
  rename_i f args α val R V ext off ok r hq
  cases hg : isGoCall o with
  | false =>
   rw [hg] at hk
   exact zdv hk hR fun s' a' e' w' h1 h2 _ => hK _ s' a' e' w' h1 h2
  | true =>
   rw [hg] at hk
   obtain ⟨h1,h2⟩:=hk
   have hrun:=congrFun (congrFun h1 e) w
   unfold Oper.wp
   rw [hR.exec,hrun,Oper.upon_enter]
   refine (ok w hR.jj).mono ?_
   rintro _ W' ⟨x,rfl,hE,hx,hV⟩
   have hR2 : Rl (J:=fun W => J W ∧ R x W) ⟨s.n,s.t,s.z,s.m,s.x,r x⟩ a e W' :=
    ⟨hR.size,hR.defers,hR.slot,fun i b hb => hE.block (hR.blk i b hb),hR.own,hR.far,hR.ext.trans hE,⟨hR.jx _ _ hR.jj hE,hx⟩,fun W W2 h k => ⟨hR.jx _ _ h.1 k,ext x _ _ h.2 k⟩,
     fun i h1 h2 W o vs h => ⟨hR.jo i h1 h2 W o vs h.1,off x W _ o vs h.2 fun hv => by
      have h3:=(hV _ hv).1
      have h4:=hR.lt (i:=i) h2
      have h5:=hR.own i h1 h2
      omega⟩,
     fun g hg W o vs h => ⟨hR.jf g (Nat.le_trans (Below.size hE) hg) W o vs h.1,off x W g o vs h.2 fun hv => by
      have h3:=(hV _ hv).2
      omega⟩⟩
   obtain ⟨s',h3,h4,_⟩:=hR2.put (h2 x) rfl
   exact hK _ s' _ e W' h3 h4
 ·
  exact zdv hk hR fun s' a' e' w' h1 h2 _ => hK _ s' a' e' w' h1 h2
theorem stopsH_wp {ops : List Oper} {k : Nx P w0 Post} : ∀ {l : List Oper} {J : World → Prop} {s : Sta P w0 Post J} {a : Act} {e : Nat → Nat} {w : World},OkR (stOpsH ops l J s k) → Rl s a e w →
  (∀ (J' : World → Prop) (s' : Sta P w0 Post J') a' e' w',OkR (k J' s') → Rl s' a' e' w' → Q .normal a' w') → wpList P ops.toArray Q l a w
 | [],J,s,a,e,w,h,hR,hK => wpList_nil (hK J s a e w h hR)
 | o :: l,J,s,a,e,w,h,hR,hK => by
  unfold stOpsH at h
  refine wpList_step fun K hK' => ?_
  split at h
  ·
   rename_i hw
   rw [if_pos (zbn hw hR)]
   exact stany_sound h hR fun J' s' a' e' w' h1 h2 => hK' _ _ (stopsH_wp h1 h2 hK)
  ·
   rename_i hw
   rw [if_neg (by rw [zbn hw hR]; exact Bool.false_ne_true)]
   obtain ⟨s',h1,h2,_⟩:=hR.put h rfl
   exact hK' _ _ (stopsH_wp h1 h2 hK)
  ·
   exact h.elim
def casesN : Nat → OT P w0 Post J → (OT P w0 Post J → Rsl) → Rsl
 | 0,q,k => k q
 | f + 1,q,k => match q with
  | .cases p y n => .both (.br fun h : PLift p => casesN f (y h.down) k) (.br fun h : PLift (¬ p) => casesN f (n h.down) k)
  | .get p _ r => .br fun x : { x // p x } => casesN f (r x.1 x.2) k
  | q => k q
theorem zew : ∀ {f : Nat} {q : OT P w0 Post J} {k : OT P w0 Post J → Rsl},OkR (casesN f q k) → ∃ q',OkR (k q')
 | 0,q,k,h => ⟨q,h⟩
 | f + 1,q,k,h => by
  unfold casesN at h
  split at h
  ·
   rename_i p y n
   by_cases hp : p
   ·
    exact zew (h.1 ⟨hp⟩)
   ·
    exact zew (h.2 ⟨hp⟩)
  ·
   rename_i α p hx r
   obtain ⟨x,hp⟩:=hx
   exact zew (h ⟨x,hp⟩)
  ·
   exact ⟨_,h⟩
def same1 (a b : SV) (n : Rsl) : Rsl :=
 match a,b with
 | .v x,.v y => .eq (fun _ W => .ok (.value x) W) (fun _ W => .ok (.value y) W) n
 | .p i o,.p i' o' => bif Nat.beq i i' && Nat.beq o o' then n else .bad
 | _,_ => .bad
def sameL : List SV → List SV → Rsl → Rsl
 | [],[],n => n
 | a :: l,b :: l',n => same1 a b (sameL l l' n)
 | _,_,_ => .bad
def sameM : List Blk → List Blk → Rsl → Rsl
 | _,[],n => n
 | a :: l,b :: l',n => bif Nat.beq a.ty b.ty then sameL a.cs b.cs (sameM l l' n) else .bad
 | [],_ :: _,_ => .bad
def sameT (s : Sta P w0 Post J) : List (Nat × SV) → Rsl → Rsl
 | [],n => n
 | (j,b) :: r,n => same1 (lookZ s.z s.t j) b (sameT s r n)
def stSame (s : Sta P w0 Post J) (T : List (Nat × SV)) (M : List Blk) : Rsl:=sameT s T (sameM s.m M .done)
theorem same1_sound (e : Nat → Nat) (w : World) {a b : SV} {n : Rsl} (h : OkR (same1 a b n)) : a.den e = b.den e ∧ OkR n:=by
 unfold same1 at h
 split at h
 ·
  rename_i x y
  obtain ⟨h1,h2⟩:=h
  have h3:=congrFun (congrFun h1 e) w
  have h3 : x = y:=by simpa using h3
  exact ⟨h3,h2⟩
 ·
  rename_i i o i' o'
  cases hb : (Nat.beq i i' && Nat.beq o o') with
  | false => rw [hb] at h; exact h.elim
  | true =>
   rw [hb] at h
   simp only [Bool.and_eq_true] at hb
   rw [Nat.eq_of_beq_eq_true hb.1,Nat.eq_of_beq_eq_true hb.2]
   exact ⟨rfl,h⟩
 ·
  exact h.elim
theorem sameL_sound (e : Nat → Nat) (w : World) : ∀ {l l' : List SV} {n : Rsl},OkR (sameL l l' n) → l.map (SV.den e) = l'.map (SV.den e) ∧ OkR n
 | [],[],n,h => ⟨rfl,h⟩
 | a :: l,b :: l',n,h => by
  obtain ⟨h1,h2⟩:=same1_sound e w (show OkR (same1 a b (sameL l l' n)) from h)
  obtain ⟨h3,h4⟩:=sameL_sound e w h2
  exact ⟨by rw [List.map_cons,List.map_cons,h1,h3],h4⟩
 | [],_ :: _,_,h => h.elim
 | _ :: _,[],_,h => h.elim
theorem sameM_sound (e : Nat → Nat) (w : World) : ∀ {m M : List Blk} {n : Rsl},OkR (sameM m M n) → (∀ (i : Nat) b,M[i]? = some b → ∃ b',m[i]? = some b' ∧ b'.obj e = b.obj e) ∧ M.length ≤ m.length ∧ OkR n
 | m,[],n,h => ⟨fun i b hb => by simp at hb,Nat.zero_le _,by cases m <;> exact h⟩
 | a :: l,b :: l',n,h => by
  have h : OkR (bif Nat.beq a.ty b.ty then sameL a.cs b.cs (sameM l l' n) else .bad):=h
  cases hb : Nat.beq a.ty b.ty with
  | false => rw [hb] at h; exact h.elim
  | true =>
   rw [hb] at h
   obtain ⟨h1,h2⟩:=sameL_sound e w (show OkR (sameL a.cs b.cs (sameM l l' n)) from h)
   obtain ⟨h3,h4,h5⟩:=sameM_sound e w h2
   refine ⟨fun i c hc => ?_,by simpa using h4,h5⟩
   cases i with
   | zero =>
    obtain rfl : b = c:=by simpa using hc
    refine ⟨a,rfl,?_⟩
    unfold Blk.obj
    rw [h1,Nat.eq_of_beq_eq_true hb]
   | succ i => exact h3 i c (by simpa using hc)
 | [],_ :: _,_,h => h.elim
theorem sameT_sound {s : Sta P w0 Post J} (e : Nat → Nat) (w : World) : ∀ {T : List (Nat × SV)} {n : Rsl},OkR (sameT s T n) → (∀ x ∈ T,(lookZ s.z s.t x.1).den e = x.2.den e) ∧ OkR n
 | [],n,h => ⟨fun x hx => by simp at hx,h⟩
 | (j,b) :: r,n,h => by
  obtain ⟨h1,h2⟩:=same1_sound e w (show OkR (same1 (lookZ s.z s.t j) b (sameT s r n)) from h)
  obtain ⟨h3,h4⟩:=sameT_sound e w h2
  refine ⟨fun x hx => ?_,h4⟩
  rcases List.mem_cons.1 hx with rfl | hx
  ·
   exact h1
  ·
   exact h3 x hx
theorem lookZ_or {z : Nat → Value} {j : Nat} : ∀ (l : List (Nat × SV)),(∃ x ∈ l,x.1 = j ∧ lookZ z l j = x.2) ∨ lookZ z l j = .v (z j)
 | [] => .inr rfl
 | (i,y) :: r => by
  rw [zfv]
  by_cases h : j = i
  ·
   subst h
   exact .inl ⟨(j,y),List.mem_cons_self,rfl,if_pos rfl⟩
  ·
   rw [if_neg h]
   rcases lookZ_or r with ⟨x,h1,h2⟩ | h1
   ·
    exact .inl ⟨x,List.mem_cons_of_mem _ h1,h2⟩
   ·
    exact .inr h1
theorem rl_same {s : Sta P w0 Post J} {T : List (Nat × SV)} {M : List Blk} {q : OT P w0 Post J} {a : Act} {e : Nat → Nat} {w : World} (h : OkR (stSame s T M)) (hR : Rl s a e w) :
  Rl ⟨s.n,T,fun j => (lookZ s.z s.t j).den e,M,s.x,q⟩ a e w:=by
 obtain ⟨h1,h2⟩:=sameT_sound e w h
 obtain ⟨h3,h4,_⟩:=sameM_sound e w h2
 refine ⟨hR.size,hR.defers,fun j => ?_,fun i b hb => ?_,fun i h5 h6 => hR.own i h5 (Nat.lt_of_lt_of_le h6 h4),fun i j h5 h6 h7 h8 => hR.far i j h5 (Nat.lt_of_lt_of_le h6 h4) (Nat.lt_of_lt_of_le h7 h4) h8,hR.ext,hR.jj,hR.jx,fun i h5 h6 => hR.jo i h5 (Nat.lt_of_lt_of_le h6 h4),hR.jf⟩
 ·
  show _ = (lookZ _ T j).den e
  rw [hR.slot j]
  rcases lookZ_or (z:=fun j => (lookZ s.z s.t j).den e) (j:=j) T with ⟨x,hx,rfl,h5⟩ | h5
  ·
   rw [h5]
   exact h1 x hx
  ·
   rw [h5]
   rfl
 ·
  obtain ⟨b',h5,h6⟩:=h3 i b hb
  rw [← h6]
  exact hR.blk i b' h5
abbrev Nc (P : Program) (w0 : World) (Post : Value → World → Prop):=(J : World → Prop) → Xt → Sta P w0 Post J → Rsl
def rep (f : (J : World → Prop) → Sta P w0 Post J → Nc P w0 Post → Rsl) : Nat → (J : World → Prop) → Sta P w0 Post J → Nc P w0 Post → Rsl
 | 0,_,_,_ => .bad
 | n + 1,J,s,k => f J s fun J' x s1 => match x with
  | .normal => rep f n J' s1 k
  | .exit j => k J' (.exit j) s1
  | .ret => k J' .ret s1
def stC : Code → (J : World → Prop) → Sta P w0 Post J → Nc P w0 Post → Rsl
 | .skip,J,s,k => k J .normal s
 | .label _,J,s,k => k J .normal s
 | .region _ ops draw,J,s,k => casesN 4 s.q fun q => bif draw then stDraw ops.toList { s with q:=q } (fun s1 => k J .normal s1) else stOpsH ops.toList ops.toList J { s with q:=q } fun J' s1 => k J' .normal s1
 | .seq a b,J,s,k => stC a J s fun J' x s1 => match x with
  | .normal => stC b J' s1 k
  | .exit j => k J' (.exit j) s1
  | .ret => k J' .ret s1
 | .cond c a b,J,s,k => match stX s c with
  | .v (.bool true) => stC a J s k
  | .v (.bool false) => stC b J s k
  | _ => .bad
 | .block id c,J,s,k => stC c J s fun J' x s1 => match x with
  | .exit j => bif Nat.beq j id then k J' .normal s1 else k J' (.exit j) s1
  | .normal => k J' .normal s1
  | .ret => k J' .ret s1
 | .scope c,J,s,k => stC c J s k
 | .loop c,J,s,k => match s.q with
  | .loop T M μ H i _ body => .both (stSame s (T i) (M i)) (.br fun l : { l : Nat → Nat // H l } => .br fun z : Nat → Value => stC c J ⟨s.n,T l.1,z,M l.1,s.x,body l.1 l.2⟩ fun J' x s1 => match x with
   | .normal => match s1.q with
    | .next l' c' _ => bif Nat.beq s1.n s.n && Nat.beq s1.x s.x then .weq J' J (.peq c' (H l' ∧ μ l' < μ l.1) (stSame s1 (T l') (M l'))) else .bad
    | _ => .bad
   | .exit j => k J' (.exit j) s1
   | .ret => k J' .ret s1)
  | .loopG T M μ H _ _ t m _ body => .both (stSame s t m) (.br fun l : { l // H l } => .br fun z : Nat → Value => stC c J ⟨s.n,T l.1,z,M l.1,s.x,body l.1 l.2⟩ fun J' x s1 => match x with
   | .normal => match s1.q with
    | .nextG t' m' c' _ => bif Nat.beq s1.n s.n && Nat.beq s1.x s.x then .weq J' J (.peq c' (∃ l',(H l' ∧ μ l' < μ l.1) ∧ T l' = t' ∧ M l' = m') (stSame s1 t' m')) else .bad
    | _ => .bad
   | .exit j => k J' (.exit j) s1
   | .ret => k J' .ret s1)
  | .unroll n r => rep (fun J s k => stC c J s k) n J { s with q:=r } k
  | _ => .bad
 | .exit id,J,s,k => k J (.exit id) s
 | .ret,J,s,k => k J .ret s
 | _,_,_,_ => .bad
theorem zex : ∀ {c : Code} {Q : Exit → Act → World → Prop} {J : World → Prop} {s : Sta P w0 Post J} {k : Nc P w0 Post} {a : Act} {e : Nat → Nat} {w : World},OkR (stC c J s k) → Rl s a e w →
  (∀ (J' : World → Prop) x (s' : Sta P w0 Post J') a' e' w',OkR (k J' x s') → Rl s' a' e' w' → Q x.to a' w') → c.wp P Q a w
 | .skip,Q,J,s,k,a,e,w,h,hR,hK => wp_skip (hK J .normal s a e w h hR)
 | .label _,Q,J,s,k,a,e,w,h,hR,hK => wp_label (hK J .normal s a e w h hR)
 | .region _ ops draw,Q,J,s,k,a,e,w,h,hR,hK => by
  unfold stC at h
  obtain ⟨q',h⟩:=zew h
  have hR:=hR.q q'
  cases draw with
  | true => simpa using stdraw_wp (ops:=ops.toList) h hR fun s' a' e' w' h1 h2 => hK J .normal s' a' e' w' h1 h2
  | false => exact wp_region_list (by simpa using stopsH_wp (ops:=ops.toList) h hR fun J' s' a' e' w' h1 h2 => hK J' .normal s' a' e' w' h1 h2)
 | .seq a b,Q,J,s,k,a',e,w,h,hR,hK => by
  unfold stC at h
  refine wp_seq (zex h hR fun J' x s1 a1 e1 w1 h1 h2 => ?_)
  cases x with
  | normal => exact zex h1 h2 hK
  | exit j => exact hK J' (.exit j) s1 a1 e1 w1 h1 h2
  | ret => exact hK J' .ret s1 a1 e1 w1 h1 h2
 | .cond c x y,Q,J,s,k,a,e,w,h,hR,hK => by
  unfold stC at h
  have hc : a.eval c = (stX s c).den e:=by rw [hR.eval]
  split at h
  ·
   rename_i he
   rw [he] at hc
   exact wp_cond_true hc (zex h hR hK)
  ·
   rename_i he
   rw [he] at hc
   exact wp_cond_false hc (zex h hR hK)
  ·
   exact h.elim
 | .block id c,Q,J,s,k,a,e,w,h,hR,hK => by
  unfold stC at h
  refine wp_block (zex h hR fun J' x s1 a1 e1 w1 h1 h2 => ?_)
  cases x with
  | normal => exact hK J' .normal s1 a1 e1 w1 h1 h2
  | ret => exact hK J' .ret s1 a1 e1 w1 h1 h2
  | exit j =>
   simp only at h1
   show (if j = id then Q .normal a1 w1 else Q (.exit j) a1 w1)
   cases hj : Nat.beq j id with
   | true =>
    rw [hj] at h1
    rw [if_pos (Nat.eq_of_beq_eq_true hj)]
    exact hK J' .normal s1 a1 e1 w1 h1 h2
   | false =>
    rw [hj] at h1
    rw [if_neg fun hh => by subst hh; simp at hj]
    exact hK J' (.exit j) s1 a1 e1 w1 h1 h2
 | .scope c,Q,J,s,k,a,e,w,h,hR,hK => by
  unfold stC at h
  refine wp_scope_straight (zex h hR fun J' x s1 a1 e1 w1 h1 h2 => ?_)
  have:=hK J' x s1 a1 e1 w1 h1 h2
  cases x <;> exact this
 | .exit id,Q,J,s,k,a,e,w,h,hR,hK => wp_exit (hK J (.exit id) s a e w h hR)
 | .ret,Q,J,s,k,a,e,w,h,hR,hK => wp_ret (hK J .ret s a e w h hR)
 | .loop c,Q,J,s,k,a,e,w,h,hR,hK => by
  unfold stC at h
  split at h
  ·
   rename_i T M μ H i h0 body hq
   obtain ⟨h1,h2⟩:=h
   refine wp_loop_ghost (fun n a w => ∃ (l : { l : Nat → Nat // H l }) (z : Nat → Value) (e : Nat → Nat),μ l.1 = n ∧ Rl ⟨s.n,T l.1,z,M l.1,s.x,body l.1 l.2⟩ a e w) (μ i) ⟨⟨i,h0⟩,_,e,rfl,rl_same h1 hR⟩ fun n a w ⟨l,z,e,hn,hR⟩ => ?_
   refine zex (h2 l z) hR fun J' x s' a' e' w' h3 h4 => ?_
   cases x with
   | normal =>
    simp only at h3
    split at h3
    ·
     rename_i l' c' hc hq'
     cases hb : (Nat.beq s'.n s.n && Nat.beq s'.x s.x) with
     | false => rw [hb] at h3; exact h3.elim
     | true =>
      rw [hb] at h3
      simp only [Bool.and_eq_true] at hb
      obtain ⟨hJ,hc2,h5⟩:=h3
      subst hJ
      have hc3 : H l' ∧ μ l' < μ l.1:=by rw [← hc2]; exact hc
      have h6:=rl_same (q:=body l' hc3.1) h5 h4
      rw [Nat.eq_of_beq_eq_true hb.1,Nat.eq_of_beq_eq_true hb.2] at h6
      exact show ∃ n',n' < n ∧ _ from ⟨μ l',by rw [← hn]; exact hc3.2,⟨l',hc3.1⟩,_,e',rfl,h6⟩
    ·
     exact h3.elim
   | exit j => exact hK J' (.exit j) s' a' e' w' h3 h4
   | ret => exact hK J' .ret s' a' e' w' h3 h4
  ·
   rename_i α T M μ H i h0 t m ht body hq
   obtain ⟨h1,h2⟩:=h
   obtain ⟨rfl,rfl⟩:=ht
   refine wp_loop_ghost (fun n a w => ∃ (l : { l // H l }) (z : Nat → Value) (e : Nat → Nat),μ l.1 = n ∧ Rl ⟨s.n,T l.1,z,M l.1,s.x,body l.1 l.2⟩ a e w) (μ i) ⟨⟨i,h0⟩,_,e,rfl,rl_same h1 hR⟩ fun n a w ⟨l,z,e,hn,hR⟩ => ?_
   refine zex (h2 l z) hR fun J' x s' a' e' w' h3 h4 => ?_
   cases x with
   | normal =>
    simp only at h3
    split at h3
    ·
     rename_i t' m' c' hc hq'
     cases hb : (Nat.beq s'.n s.n && Nat.beq s'.x s.x) with
     | false => rw [hb] at h3; exact h3.elim
     | true =>
      rw [hb] at h3
      simp only [Bool.and_eq_true] at hb
      obtain ⟨hJ,hc2,h5⟩:=h3
      subst hJ
      have hc3 : ∃ l',(H l' ∧ μ l' < μ l.1) ∧ T l' = t' ∧ M l' = m':=by rw [← hc2]; exact hc
      obtain ⟨l',⟨hc4,hc5⟩,hT,hM⟩:=hc3
      have h6:=rl_same (q:=body l' hc4) h5 h4
      rw [Nat.eq_of_beq_eq_true hb.1,Nat.eq_of_beq_eq_true hb.2,← hT,← hM] at h6
      exact show ∃ n',n' < n ∧ _ from ⟨μ l',by rw [← hn]; exact hc5,⟨l',hc4⟩,_,e',rfl,h6⟩
    ·
     exact h3.elim
   | exit j => exact hK J' (.exit j) s' a' e' w' h3 h4
   | ret => exact hK J' .ret s' a' e' w' h3 h4
  ·
   rename_i n r hq
   refine wp_loop_rounds n ?_
   have hR:=hR.q r
   have key : ∀ (n : Nat) (J : World → Prop) (s : Sta P w0 Post J) a e w,OkR (rep (fun J s k => stC c J s k) n J s k) → Rl s a e w → Code.rounds P c Q n a w:=by
    intro n
    induction n with
    | zero => intro J s a e w h _; exact h.elim
    | succ n ih =>
     intro J s a e w h hR
     rw [rounds_succ]
     refine zex h hR fun J' x s' a' e' w' h3 h4 => ?_
     cases x with
     | normal => exact ih J' s' a' e' w' h3 h4
     | exit j => exact hK J' (.exit j) s' a' e' w' h3 h4
     | ret => exact hK J' .ret s' a' e' w' h3 h4
   exact key n J _ a e w h hR
  ·
   exact h.elim
 | .rangeFunc _ _ _ _,_,_,_,_,_,_,_,h,_,_ => h.elim
 | .goto _,_,_,_,_,_,_,_,h,_,_ => h.elim
 | .refuse _,_,_,_,_,_,_,_,h,_,_ => h.elim
/-! ### results -/
def stRV (s : Sta P w0 Post J) : ResultVar → Option Value
 | .tmp t => match lookZ s.z s.t t with
  | .v x => some x
  | .p _ _ => none
 | .cell t ty => match lookZ s.z s.t t with
  | .p i off => match s.m[i]?,P.underlying ty with
   | some b,some d => bif isRowT d then
     match P.info? ty with
     | some inf => match toVals ((b.cs.drop off).take inf.size) with
      | some vs => bif Nat.beq vs.length inf.size then some (.agg vs.toArray) else none
      | none => none
     | none => none
    else match b.cs[off]? with
     | some (.v x) => some x
     | _ => none
   | _,_ => none
  | .v _ => none
theorem zdf {s : Sta P w0 Post J} {r : ResultVar} {v : Value} {a : Act} {e : Nat → Nat} {w : World} (h : stRV s r = some v) (hR : Rl s a e w) : (rvRun a.tmps r).run P w = .ok v w:=by
 cases r with
 | tmp t =>
  unfold stRV at h
  simp only at h
  split at h
  ·
   rename_i x hx
   injection h with h
   subst h
   show (pure (a.tmps.getD t undef) : Sem Value).run P w = _
   rw [hR.slot t,hx]
   exact Sem.run_pure ..
  ·
   cases h
 | cell t ty =>
  unfold stRV at h
  simp only at h
  split at h
  ·
   rename_i i off hx
   have ha : a.tmps.getD t undef = .pointer (some ⟨e i,off,none⟩):=by rw [hR.slot t,hx]; rfl
   have hrun : (rvRun a.tmps (.cell t ty)).run P w = (loadVar ty ⟨e i,off,none⟩).run P w:=by
    show (do loadVar ty (← asAddr (a.tmps.getD t undef)) : Sem Value).run P w = _
    rw [ha]
    simp [asAddr]
   rw [hrun]
   split at h
   ·
    rename_i b d hb hu
    have hblk:=hR.blk i b hb
    cases hd : isRowT d with
    | true =>
     rw [hd] at h
     simp only [cond_true] at h
     split at h
     ·
      rename_i inf hi
      split at h
      ·
       rename_i vs hvs
       cases hl : Nat.beq vs.length inf.size with
       | false => rw [hl] at h; cases h
       | true =>
        rw [hl] at h
        have hlen:=Nat.eq_of_beq_eq_true hl
        obtain rfl : Value.agg vs.toArray = v:=by simpa using h
        refine run_loadVar_mid w (e i) off ty vs d (fun j u hu => ?_) hu (by cases d <;> simp_all [isRowT]) (by rw [hi]; simp [hlen])
        have hj : j < vs.length:=(List.getElem?_eq_some_iff.1 hu).1
        rw [cell_of_row w (e i) (off + j) _ _ _ hblk]
        have hm:=zhr (e:=e) hvs
        rw [← hm,← hlen,List.getElem?_map,List.getElem?_take_of_lt (by omega),List.getElem?_drop] at hu
        simpa using hu
      ·
       cases h
     ·
      cases h
    | false =>
     rw [hd] at h
     simp only [cond_false] at h
     split at h
     ·
      rename_i x hc
      obtain rfl : x = v:=by simpa using h
      have hcell : w.cell? ⟨e i,off,none⟩ = some x:=by
       rw [cell_of_row w (e i) off _ _ _ hblk]
       simp [hc,SV.den]
      have hl : (load ⟨e i,off,none⟩).run P w = .ok x w:=by simp [go_sem,hcell]
      simp only [loadVar,Sem.run_bind,agg_no hu hd w,Result.andThen_ok,Bool.false_eq_true,if_false,hl]
     ·
      cases h
   ·
    cases h
  ·
   cases h
def stRes (s : Sta P w0 Post J) (fn : Func) : Option Value :=
 match fn.results.toList with
 | [a] => stRV s a
 | [a,b] => match stRV s a,stRV s b with
  | some x,some y => some (.tuple #[x,y])
  | _,_ => none
 | [a,b,c] => match stRV s a,stRV s b,stRV s c with
  | some x,some y,some z => some (.tuple #[x,y,z])
  | _,_,_ => none
 | _ => none
theorem stres_sound {s : Sta P w0 Post J} {fn : Func} {v : Value} {a : Act} {e : Nat → Nat} {w : World} (h : stRes s fn = some v) (hR : Rl s a e w) : (results fn a.tmps).run P w = .ok v w:=by
 rw [results_rv]
 unfold stRes at h
 split at h
 ·
  rename_i x hx
  have hx : fn.results = #[x]:=by apply Array.toList_inj.1; simpa using hx
  have hr:=zdf h hR
  rw [hx]
  simp [hr]
 ·
  rename_i x y hx
  have hx : fn.results = #[x,y]:=by apply Array.toList_inj.1; simpa using hx
  split at h
  ·
   rename_i u v h1 h2
   injection h with h
   subst h
   have hr1:=zdf h1 hR
   have hr2:=zdf h2 hR
   rw [hx]
   simp [hr1,hr2]
  ·
   cases h
 ·
  rename_i x y z hx
  have hx : fn.results = #[x,y,z]:=by apply Array.toList_inj.1; simpa using hx
  split at h
  ·
   rename_i u v t h1 h2 h3
   injection h with h
   subst h
   have hr1:=zdf h1 hR
   have hr2:=zdf h2 hR
   have hr3:=zdf h3 hR
   rw [hx]
   simp [hr1,hr2,hr3]
  ·
   cases h
 ·
  cases h
def wayEnd (fn : Func) : Nc P w0 Post:=fun _ x s => match x with
 | .exit _ => .bad
 | _ => match stRes s fn,s.q with
  | some u,.ret v _ => .eq (fun _ W => .ok (.value u) W) (fun _ W => .ok (.value v) W) .done
  | _,_ => .bad
def wayRes (fn : Func) (args : List SV) (m : List Blk) (q : OT P w0 Post (Ext w0)) : Rsl :=
 match fn.body with
 | some c => stC c (Ext w0) ⟨args.length + (fn.ntmps - args.length),enumS 0 args,fun _ => undef,m,m.length,q⟩ (wayEnd fn)
 | none => .bad
theorem enum_lookZ : ∀ (l : List SV) (k i : Nat),lookZ (fun _ => undef) (enumS k l) i = if k ≤ i then l.getD (i - k) (.v undef) else .v undef
 | [],k,i => by
  show SV.v undef = _
  split <;> simp
 | x :: r,k,i => by
  show lookZ _ ((k,x) :: enumS (k + 1) r) i = _
  rw [zfv,enum_lookZ r (k + 1) i]
  by_cases h : i = k
  ·
   subst h
   rw [if_pos rfl,if_pos (Nat.le_refl _),Nat.sub_self]
   rfl
  ·
   rw [if_neg h]
   by_cases h2 : k ≤ i
   ·
    rw [if_pos (by omega),if_pos h2,show i - k = (i - (k + 1)) + 1 by omega]
    rfl
   ·
    rw [if_neg (by omega),if_neg h2]
theorem way {f : FuncId} {fn : Func} {w : World} (hf : P.funcs[f]? = some fn) (args : List SV) (m : List Blk) (e : Nat → Nat) (q : OT P w Post (Ext w))
  (hm : ∀ (i : Nat) b,m[i]? = some b → w.heap[e i]? = some (b.obj e)) (chk : (wayRes fn args m q).left = (wayRes fn args m q).right) :
  Calls P f (args.map (SV.den e)).toArray w fun e' w' => ∃ v,e' = .returned v ∧ Post v w':=by
 have hl:=zhx chk
 unfold wayRes at hl
 split at hl
 ·
  rename_i c hc
  refine calls_of_wp hf hc (zex (e:=e) hl ?_ ?_)
  ·
   refine ⟨by simp,rfl,fun i => ?_,hm,fun i h1 h2 => ?_,fun i j h1 h2 h3 h4 => ?_,Ext.refl w,Ext.refl w,fun W W' h k => h.trans k,fun i h1 h2 => ?_,fun g hg W o vs h => cells_ext vs o h hg⟩
   ·
    show _ = (lookZ _ (enumS 0 args) i).den e
    rw [enum_lookZ,if_pos (Nat.zero_le _),Nat.sub_zero]
    by_cases hi : i < args.length
    ·
     simp [Array.getD_eq_getD_getElem?,Array.getElem?_append,hi,List.getD_eq_getElem?_getD]
    ·
     simp [Array.getD_eq_getD_getElem?,Array.getElem?_append,hi,List.getD_eq_getElem?_getD,Array.getElem?_replicate,SV.den]
     split <;> rfl
   ·
    have h1 : m.length ≤ i:=h1
    have h2 : i < m.length:=h2
    omega
   ·
    have h1 : m.length ≤ i:=h1
    have h2 : i < m.length:=h2
    omega
   ·
    have h1 : m.length ≤ i:=h1
    have h2 : i < m.length:=h2
    omega
  ·
   intro J' x s a' e' w' h1 h2
   have fin : (∃ u,stRes s fn = some u) → bodyPost P fn (fun e' w' => ∃ v,e' = .returned v ∧ Post v w') x.to a' w':=fun ⟨u,hu⟩ => by
    have hres:=stres_sound hu h2
    cases x with
    | exit id => exact h1.elim
    | normal =>
     unfold wayEnd at h1
     rw [hu] at h1
     simp only at h1
     split at h1
     ·
      rename_i u' v hp he hq
      have huv:=congrFun (congrFun h1.1 e') w'
      have huv : u' = v:=by simpa using huv
      injection he with he
      subst he
      exact ⟨h2.defers,_,hres,_,rfl,by rw [huv]; exact hp _ h2.jj⟩
     ·
      exact h1.elim
    | ret =>
     unfold wayEnd at h1
     rw [hu] at h1
     simp only at h1
     split at h1
     ·
      rename_i u' v hp he hq
      have huv:=congrFun (congrFun h1.1 e') w'
      have huv : u' = v:=by simpa using huv
      injection he with he
      subst he
      exact ⟨h2.defers,_,hres,_,rfl,by rw [huv]; exact hp _ h2.jj⟩
     ·
      exact h1.elim
   cases hu : stRes s fn with
   | some u => exact fin ⟨u,hu⟩
   | none =>
    cases x with
    | exit id => exact h1.elim
    | normal => unfold wayEnd at h1; rw [hu] at h1; exact h1.elim
    | ret => unfold wayEnd at h1; rw [hu] at h1; exact h1.elim
 ·
  exact hl.elim
def binK (op : BinOp) (T : TypeId) (X Y : Operand) (x y : Value) : Sem Value:=do eqGuard op T X Y x y; binOp op T x y
theorem zdt {op : BinOp} {T : TypeId} {X Y : Operand} {x y r : Value} {W : World} (hg : (eqGuard op T X Y x y).run P W = .ok () W) (hb : (binOp op T x y).run P W = .ok r W) : (binK op T X Y x y).run P W = .ok r W:=by
 unfold binK
 simp only [Sem.run_bind,hg,Result.andThen_ok,hb]
theorem zjg {T : TypeId} {X Y : Operand} {c : Int} {v : Bool} (h : decide (0 ≤ c) = v) (W : World) : (binK .geq T X Y (.int .i64 c) (.int .i64 0)).run P W = .ok (.bool v) W:=by
 subst h
 unfold binK
 simp [go_sem,eqGuard]
theorem neq_run {T : TypeId} {X Y : Operand} {c d : Int} (h : ¬ c = d) (W : World) : (binK .neq T X Y (.int .i64 c) (.int .i64 d)).run P W = .ok (.bool true) W:=by
 unfold binK
 simp [go_sem,eqGuard,h]
theorem way0 {f : FuncId} {fn : Func} {w : World} (hf : P.funcs[f]? = some fn) (args : List Value) (q : OT P w Post (Ext w)) (chk : (wayRes fn (args.map SV.v) [] q).left = (wayRes fn (args.map SV.v) [] q).right) :
  Calls P f args.toArray w fun e' w' => ∃ v,e' = .returned v ∧ Post v w':=by
 have h:=way hf (args.map SV.v) [] (fun _ => 0) q (fun i b hb => by cases hb) chk
 rw [List.map_map] at h
 have e : (SV.den fun _ => 0) ∘ SV.v = id:=rfl
 rwa [e,List.map_id] at h
theorem way1 {f : FuncId} {fn : Func} {w : World} (hf : P.funcs[f]? = some fn) (args : List Value) {V : Value} (q : OT P w (fun v W => v = V ∧ Ext w W) (Ext w)) (chk : (wayRes fn (args.map SV.v) [] q).left = (wayRes fn (args.map SV.v) [] q).right) :
  Calls P f args.toArray w fun e' w' => e' = .returned V ∧ Ext w w' :=
 (way0 hf args q chk).mono fun _ _ ⟨_,he,hv,hE⟩ => ⟨by rw [he,hv],hE⟩
end
section
variable {P : Program} {T : TypeId} {X Y : Operand} {W : World}
theorem pred_run {a b : Int} (h : a - 1 = b) (h0 : 0 ≤ a) (h1 : a < 4294967296) : (binK .sub T X Y (.int .i64 a) (.int .i64 1)).run P W = .ok (.int .i64 b) W:=by
 subst h
 unfold binK
 simp [go_sem,eqGuard]
 exact IntWalk.i64_in _ (by omega)
theorem lss_run {c d : Int} {v : Bool} (h : decide (c < d) = v) : (binK .lss T X Y (.int .i64 c) (.int .i64 d)).run P W = .ok (.bool v) W:=by
 subst h
 unfold binK
 simp [go_sem,eqGuard]
end
def lst (l : List Nat) : Nat → Nat:=fun k => l.getD k 0
def cN (n : Nat) : List SV:=[.v (.int .u64 (wd n 0)),.v (.int .u64 (wd n 1)),.v (.int .u64 (wd n 2)),.v (.int .u64 (wd n 3))]
def cZ : List SV:=[.v (.int .u64 0),.v (.int .u64 0),.v (.int .u64 0),.v (.int .u64 0)]
theorem add64 (x y c : Int) (hx : 0 ≤ x) (hy : 0 ≤ y) (hc0 : 0 ≤ c) (hc : c ≤ 1) (w : World) :
  (callFunc 166 #[vI vU x,vI vU y,vI vU c]).run Tryz.prog w = .ok (.value (.tuple #[vI vU ((x + y + c) % 18446744073709551616),vI vU ((x + y + c) / 18446744073709551616)])) w:=by
 rw [run_callFunc_extern Tryz.func166 (by kernel_rfl) (by kernel_rfl) (by kernel_rfl) (e:=add64Entry) (by kernel_rfl),run_add64 x y c hx hy hc0 hc]
 rfl
def cyI (X Y i : Nat) : Int:=(cy w64 X Y i : Nat)
theorem add64_at (X Y k : Nat) (w : World) :
  (callFunc 166 #[vI vU (wd X k),vI vU (wd Y k),vI vU (cyI X Y k)]).run Tryz.prog w = .ok (.value (.tuple #[vI vU (wd (X + Y) k),vI vU (cyI X Y (k + 1))])) w:=by
 have hc:=cy_le zau X Y k
 rw [add64 _ _ _ (wd_lo _ _) (wd_lo _ _) (by unfold cyI; omega) (by unfold cyI; omega)]
 unfold wd cyI
 rw [cy_succ zau,dg_add zau]
 unfold w64
 simp
theorem cyI_top {X Y : Nat} (hX : X < top) (hY : Y < top) : (cyI X Y 4 != 0) = decide (top ≤ X + Y):=by
 unfold cyI
 rw [cy_top (n:=4) hX hY]
 show _ = decide (w64 ^ 4 ≤ X + Y)
 by_cases h : w64 ^ 4 ≤ X + Y <;> simp [h]
theorem add_any (X Y : Nat) (hX : X < top) (hY : Y < top) (w : World) :
  Calls Tryz.prog 155 #[.agg #[vI vU (wd X 0),vI vU (wd X 1),vI vU (wd X 2),vI vU (wd X 3)],.agg #[vI vU (wd Y 0),vI vU (wd Y 1),vI vU (wd Y 2),vI vU (wd Y 3)]] w fun e w' =>
   e = .returned (.tuple #[.agg #[vI vU (wd (X + Y) 0),vI vU (wd (X + Y) 1),vI vU (wd (X + Y) 2),vI vU (wd (X + Y) 3)],.bool (decide (top ≤ X + Y))]) ∧ Below w.heap.size w w':=by
 have h29:=fun (k : Nat) (W : World) => add64_at X Y k W
 go_enter Tryz.func155,Tryz.ntmps155
 go_wp2
 go_loopw [7,9] (fun c i wr => ∃ k : Nat,k ≤ 4 ∧ i = .int .i64 k ∧ c = .int .u64 (cyI X Y k) ∧ wr.rowIs w.heap.size 29 4 (fun j => .int .u64 (wd X j))
   ∧ wr.rowIs (w.heap.size + 1) 29 4 (fun j => .int .u64 (wd Y j)) ∧ wr.rowIs (w.heap.size + 1 + 1) 29 4 (fun _ => .int .u64 0)
   ∧ wr.rowIs (w.heap.size + 1 + 1 + 1) 29 4 (fun j => .int .u64 (if j < k then wd (X + Y) j else 0)) ∧ Below w.heap.size w wr)
  (fun _ i _ => 4 - (intOf i).toNat)
 case atStart => exact ⟨0,by omega,rfl,by simp [cyI,cy_zero],(((zai (n:=4) (by simp) rfl (arr4 fun j => .int .u64 (wd X j))).alloc _).alloc _).alloc _,((zai (n:=4) (by simp) rfl (arr4 fun j => .int .u64 (wd Y j))).alloc _).alloc _,(zai (n:=4) (by simp) rfl (arr4 fun _ => .int .u64 0)).alloc _,zai (n:=4) (by simp) rfl (arr4 fun _ => .int .u64 0),((((Below.refl _ _).alloc (by simp) _).alloc (by simp) _).alloc (by simp; omega) _).alloc (by simp; omega) _⟩
 case round =>
  obtain ⟨k,hk,rfl,rfl,hRX,hRY,hRZ,hRS,hbel⟩:=hrel
  by_cases hlt : k < 4
  ·
   have c1:=hRX.cell hlt
   have c2:=hRY.cell hlt
   have c3:=hRS.cell hlt
   have f3:=hRS.frozen k
   go_wp2
   go_region_with (fail)
   all_goals
    go_wp2
    go_roundw
    case rel => exact ⟨k + 1,by omega,by go_num,rfl,(zat hRX (by omega) _).drew,(zat hRY (by omega) _).drew,(zat hRZ (by omega) _).drew,((hRS.set k _).congr (row_step hlt)).drew,(zag hbel (by omega) _).drew⟩
    case measure => simp [intOf]; omega
  ·
   obtain rfl : k = 4:=by omega
   obtain ⟨c0,c1,c2,c3⟩:=zak hRS
   obtain ⟨d0,d1,d2,d3⟩:=zak hRZ
   obtain ⟨f0,f1,f2,f3⟩:=zbq hRZ
   simp only [show (0 : Nat) < 4 from by omega,show (1 : Nat) < 4 from by omega,show (2 : Nat) < 4 from by omega,show (3 : Nat) < 4 from by omega,if_true] at c0 c1 c2 c3
   clear hRX hRY hRS
   have hz:=cyI_top hX hY
   go_wp2
   refine bodyPost_ret (zdb rfl _ _ (w.heap.size + 1 + 1) 29 #[vI vU (wd (X + Y) 0),vI vU (wd (X + Y) 1),vI vU (wd (X + Y) 2),vI vU (wd (X + Y) 3)] (0,0) 4 27 rfl (blk4 (put4 hRZ fun j => .int .u64 (wd (X + Y) j))) Tryz.underlying29 (by kernel_rfl)) rfl ⟨?_,zax hbel (by omega) _ _ _ _⟩
   rfl
theorem add_calls (X Y : Nat) (hX : X < top) (hY : Y < top) (w : World) :
  Calls Tryz.prog 155 #[.agg #[vI vU (wd X 0),vI vU (wd X 1),vI vU (wd X 2),vI vU (wd X 3)],.agg #[vI vU (wd Y 0),vI vU (wd Y 1),vI vU (wd Y 2),vI vU (wd Y 3)]] w fun e w' => e = .returned (.tuple #[.agg #[vI vU (wd ((X + Y) % top) 0),vI vU (wd ((X + Y) % top) 1),vI vU (wd ((X + Y) % top) 2),vI vU (wd ((X + Y) % top) 3)],.bool (decide (top ≤ X + Y))]) ∧ Below w.heap.size w w':=by
 rw [zgb _ 0 (by omega),zgb _ 1 (by omega),zgb _ 2 (by omega),zgb _ 3 (by omega)]
 exact add_any X Y hX hY w
def sub64Entry : Array Value → Sem Value:=fun args => do
 let (x,y,b) ← Extern.MathBitsCarry.three "Sub64" args
 pure (Extern.MathBitsCarry.pair ((x + Extern.MathBitsCarry.m64 - y - b) % Extern.MathBitsCarry.m64) (if x < y + b then 1 else 0))
theorem run_sub64 (x y b : Nat) (hb : b ≤ 1) (w : World) :
  (sub64Entry #[vI vU (x : Int),vI vU (y : Int),vI vU (b : Int)]).run Tryz.prog w =
   .ok (.tuple #[vI vU (((x + w64 - y - b) % w64 : Nat) : Int),vI vU ((if x < y + b then 1 else 0 : Nat) : Int)]) w:=by
 have : b = 0 ∨ b = 1:=by omega
 rcases this with rfl | rfl <;> rfl
theorem sub64 (x y b : Nat) (hb : b ≤ 1) (w : World) :
  (callFunc 156 #[vI vU (x : Int),vI vU (y : Int),vI vU (b : Int)]).run Tryz.prog w = .ok (.value (.tuple #[vI vU (((x + w64 - y - b) % w64 : Nat) : Int),vI vU ((if x < y + b then 1 else 0 : Nat) : Int)])) w:=by
 rw [run_callFunc_extern Tryz.func156 (by kernel_rfl) (by kernel_rfl) (by kernel_rfl) (e:=sub64Entry) (by kernel_rfl),run_sub64 x y b hb]
 rfl
def bwI (X Y i : Nat) : Int:=(bw w64 X Y i : Nat)
theorem sub64_at (X Y k : Nat) (hk : k < 4) (hY : Y ≤ top) (w : World) :
  (callFunc 156 #[vI vU (wd X k),vI vU (wd Y k),vI vU (bwI X Y k)]).run Tryz.prog w = .ok (.value (.tuple #[vI vU (wd (X + top - Y) k),vI vU (bwI X Y (k + 1))])) w:=by
 unfold wd bwI
 rw [sub64 _ _ _ (bw_le w64 X Y k)]
 unfold top at hY ⊢
 rw [bw_succ zau,dg_sub zau X Y 4 k hk hY]
theorem bwI_top {X Y : Nat} (hX : X < top) (hY : Y < top) : (bwI X Y 4 != 0) = decide (X < Y):=by
 unfold bwI
 rw [bw_top (n:=4) hX hY]
 by_cases h : X < Y <;> simp [h]
theorem sub_any (X Y : Nat) (hX : X < top) (hY : Y < top) (w : World) :
  Calls Tryz.prog 128 #[.agg #[vI vU (wd X 0),vI vU (wd X 1),vI vU (wd X 2),vI vU (wd X 3)],.agg #[vI vU (wd Y 0),vI vU (wd Y 1),vI vU (wd Y 2),vI vU (wd Y 3)]] w fun e w' =>
   e = .returned (.tuple #[.agg #[vI vU (wd (X + top - Y) 0),vI vU (wd (X + top - Y) 1),vI vU (wd (X + top - Y) 2),vI vU (wd (X + top - Y) 3)],.bool (decide (X < Y))]) ∧ Below w.heap.size w w':=by
 go_enter Tryz.func128,Tryz.ntmps128
 go_wp2
 go_loopw [7,9] (fun c i wr => ∃ k : Nat,k ≤ 4 ∧ i = .int .i64 k ∧ c = .int .u64 (bwI X Y k) ∧ wr.rowIs w.heap.size 29 4 (fun j => .int .u64 (wd X j))
   ∧ wr.rowIs (w.heap.size + 1) 29 4 (fun j => .int .u64 (wd Y j)) ∧ wr.rowIs (w.heap.size + 1 + 1) 29 4 (fun _ => .int .u64 0)
   ∧ wr.rowIs (w.heap.size + 1 + 1 + 1) 29 4 (fun j => .int .u64 (if j < k then wd (X + top - Y) j else 0)) ∧ Below w.heap.size w wr)
  (fun _ i _ => 4 - (intOf i).toNat)
 case atStart => exact ⟨0,by omega,rfl,by simp [bwI,bw_zero],(((zai (n:=4) (by simp) rfl (arr4 fun j => .int .u64 (wd X j))).alloc _).alloc _).alloc _,((zai (n:=4) (by simp) rfl (arr4 fun j => .int .u64 (wd Y j))).alloc _).alloc _,(zai (n:=4) (by simp) rfl (arr4 fun _ => .int .u64 0)).alloc _,zai (n:=4) (by simp) rfl (arr4 fun _ => .int .u64 0),((((Below.refl _ _).alloc (by simp) _).alloc (by simp) _).alloc (by simp; omega) _).alloc (by simp; omega) _⟩
 case round =>
  obtain ⟨k,hk,rfl,rfl,hRX,hRY,hRZ,hRS,hbel⟩:=hrel
  by_cases hlt : k < 4
  ·
   have c1:=hRX.cell hlt
   have c2:=hRY.cell hlt
   have c3:=hRS.cell hlt
   have f3:=hRS.frozen k
   have h30:=fun (W : World) => sub64_at X Y k hlt (Nat.le_of_lt hY) W
   go_wp2
   go_region_with (fail)
   all_goals
    go_wp2
    go_roundw
    case rel => exact ⟨k + 1,by omega,by go_num,rfl,(zat hRX (by omega) _).drew,(zat hRY (by omega) _).drew,(zat hRZ (by omega) _).drew,((hRS.set k _).congr (row_step hlt)).drew,(zag hbel (by omega) _).drew⟩
    case measure => simp [intOf]; omega
  ·
   obtain rfl : k = 4:=by omega
   obtain ⟨c0,c1,c2,c3⟩:=zak hRS
   obtain ⟨d0,d1,d2,d3⟩:=zak hRZ
   obtain ⟨f0,f1,f2,f3⟩:=zbq hRZ
   simp only [show (0 : Nat) < 4 from by omega,show (1 : Nat) < 4 from by omega,show (2 : Nat) < 4 from by omega,show (3 : Nat) < 4 from by omega,if_true] at c0 c1 c2 c3
   clear hRX hRY hRS
   have hz:=bwI_top hX hY
   go_wp2
   refine bodyPost_ret (zdb rfl _ _ (w.heap.size + 1 + 1) 29 #[vI vU (wd (X + top - Y) 0),vI vU (wd (X + top - Y) 1),vI vU (wd (X + top - Y) 2),vI vU (wd (X + top - Y) 3)] (0,0) 4 27 rfl (blk4 (put4 hRZ fun j => .int .u64 (wd (X + top - Y) j))) Tryz.underlying29 (by kernel_rfl)) rfl ⟨?_,zax hbel (by omega) _ _ _ _⟩
   rfl
theorem sub_calls (X Y : Nat) (hX : X < top) (hY : Y < top) (w : World) :
  Calls Tryz.prog 128 #[.agg #[vI vU (wd X 0),vI vU (wd X 1),vI vU (wd X 2),vI vU (wd X 3)],.agg #[vI vU (wd Y 0),vI vU (wd Y 1),vI vU (wd Y 2),vI vU (wd Y 3)]] w fun e w' => e = .returned (.tuple #[.agg #[vI vU (wd ((X + top - Y) % top) 0),vI vU (wd ((X + top - Y) % top) 1),vI vU (wd ((X + top - Y) % top) 2),vI vU (wd ((X + top - Y) % top) 3)],.bool (decide (X < Y))]) ∧ Below w.heap.size w w':=by
 rw [zgb _ 0 (by omega),zgb _ 1 (by omega),zgb _ 2 (by omega),zgb _ 3 (by omega)]
 exact sub_any X Y hX hY w
def cmpN (X Y : Nat) : Int:=if X < Y then -1 else if Y < X then 1 else 0
theorem cmp_step (B X Y k : Nat) (hB : 0 < B) : cmpN (X % B ^ (k + 1)) (Y % B ^ (k + 1)) = if dg B X k < dg B Y k then -1 else if dg B Y k < dg B X k then 1 else cmpN (X % B ^ k) (Y % B ^ k):=by
 have hp : 0 < B ^ k:=Nat.pow_pos hB
 have h1:=Nat.mod_lt X hp
 have h2:=Nat.mod_lt Y hp
 unfold cmpN
 rw [zbs,zbs]
 generalize dg B X k = x
 generalize dg B Y k = y
 generalize X % B ^ k = r at *
 generalize Y % B ^ k = s at *
 generalize B ^ k = P at *
 by_cases hxy : x < y
 ·
  have : P * x + P ≤ P * y:=by rw [← Nat.mul_succ]; exact Nat.mul_le_mul_left _ hxy
  rw [if_pos (by omega),if_pos hxy]
 ·
  by_cases hyx : y < x
  ·
   have : P * y + P ≤ P * x:=by rw [← Nat.mul_succ]; exact Nat.mul_le_mul_left _ hyx
   rw [if_neg (by omega),if_pos (by omega),if_neg hxy,if_pos hyx]
  ·
   have hxy' : x = y:=by omega
   subst hxy'
   simp
theorem cmp_high (B X Y n m : Nat) (hB : 0 < B) (hX : X < B ^ n) (hY : Y < B ^ n) (hm : m < n) (h : ∀ j,m < j → j < n → dg B X j = dg B Y j) (hne : dg B X m ≠ dg B Y m) :
  cmpN X Y = if dg B X m < dg B Y m then -1 else 1:=by
 have e : X / B ^ (m + 1) = Y / B ^ (m + 1):=by
  have hn : B ^ n = B ^ (m + 1) * B ^ (n - (m + 1)):=by rw [← Nat.pow_add]; congr 1; omega
  refine eq_of_dg_lt hB (n:=n - (m + 1)) ?_ ?_ fun i hi => ?_
  ·
   rw [Nat.div_lt_iff_lt_mul (Nat.pow_pos hB),Nat.mul_comm,← hn]; exact hX
  ·
   rw [Nat.div_lt_iff_lt_mul (Nat.pow_pos hB),Nat.mul_comm,← hn]; exact hY
  ·
   have:=h (m + 1 + i) (by omega) (by omega)
   unfold dg at *
   rwa [Nat.div_div_eq_div_mul,Nat.div_div_eq_div_mul,← Nat.pow_add]
 have c : cmpN X Y = cmpN (X % B ^ (m + 1)) (Y % B ^ (m + 1)):=by
  have hx:=Nat.mod_add_div X (B ^ (m + 1))
  have hy:=Nat.mod_add_div Y (B ^ (m + 1))
  rw [e] at hx
  unfold cmpN
  generalize B ^ (m + 1) * (Y / B ^ (m + 1)) = q at *
  generalize X % B ^ (m + 1) = r at *
  generalize Y % B ^ (m + 1) = s at *
  subst hx; subst hy
  simp
 rw [c,cmp_step B X Y m hB]
 by_cases hlt : dg B X m < dg B Y m
 ·
  rw [if_pos hlt,if_pos hlt]
 ·
  rw [if_neg hlt,if_neg hlt,if_pos (by omega)]
theorem compare_lt (x y : Int) (h : x < y) (w : World) : Calls Tryz.prog 134 #[vI vU x,vI vU y] w fun e w' => e = .returned (.int .i64 (-1)) ∧ w' = w:=by
 go_enter Tryz.func134,Tryz.ntmps134
 go_wp2
 go_ret
 exact ⟨rfl,rfl⟩
theorem compare_gt (x y : Int) (h : y < x) (w : World) : Calls Tryz.prog 134 #[vI vU x,vI vU y] w fun e w' => e = .returned (.int .i64 1) ∧ w' = w:=by
 go_enter Tryz.func134,Tryz.ntmps134
 go_wp2
 go_ret
 exact ⟨rfl,rfl⟩
theorem wd_cmp {X Y k : Nat} (h : dg w64 X k < dg w64 Y k) : wd X k < wd Y k:=by unfold wd; omega
theorem cmp_calls (X Y : Nat) (hX : X < top) (hY : Y < top) (w : World) :
  Calls Tryz.prog 98 #[.agg #[vI vU (wd X 0),vI vU (wd X 1),vI vU (wd X 2),vI vU (wd X 3)],.agg #[vI vU (wd Y 0),vI vU (wd Y 1),vI vU (wd Y 2),vI vU (wd Y 3)]] w fun e w' => e = .returned (.int .i64 (cmpN X Y)) ∧ Below w.heap.size w w':=by
 go_enter Tryz.func98,Tryz.ntmps98
 go_wp2
 go_loopw [5] (fun i wr => ∃ k : Nat,k ≤ 4 ∧ i = .int .i64 ((k : Int) - 1) ∧ (∀ j,k ≤ j → j < 4 → dg w64 X j = dg w64 Y j) ∧ wr.rowIs w.heap.size 29 4 (fun j => .int .u64 (wd X j))
   ∧ wr.rowIs (w.heap.size + 1) 29 4 (fun j => .int .u64 (wd Y j)) ∧ Below w.heap.size w wr)
  (fun i _ => (intOf i + 1).toNat)
 case atStart => exact ⟨4,by omega,rfl,by intro j h1 h2; omega,(zai (n:=4) (by simp) rfl (arr4 fun j => .int .u64 (wd X j))).alloc _,zai (n:=4) (by simp) rfl (arr4 fun j => .int .u64 (wd Y j)),((Below.refl _ _).alloc (by simp) _).alloc (by simp) _⟩
 case round =>
  obtain ⟨k,hk,hi,hall,hRX,hRY,hbel⟩:=hrel
  have HALL:=veil hall
  clear hall
  cases k with
  | zero =>
   subst hi
   have hXY : X = Y:=eq_of_dg_lt zau hX hY fun j hj => HALL.out j (Nat.zero_le _) hj
   go_wp2
   go_ret
   have hc : cmpN X Y = 0:=by unfold cmpN; rw [if_neg (by omega),if_neg (by omega)]
   rw [hc]
   exact ⟨rfl,hbel⟩
  | succ m =>
   obtain rfl : _ = Value.int .i64 (m : Int):=hi.trans (by congr 1; omega)
   have hm : m < 4:=by omega
   go_wp2
   have c1:=hRX.cell hm
   have c2:=hRY.cell hm
   rcases Nat.lt_trichotomy (dg w64 X m) (dg w64 Y m) with h | h | h
   ·
    have hlt:=wd_cmp h
    have hne : (wd X m != wd Y m) = true:=by rw [bne_iff_ne]; omega
    have hc : cmpN X Y = -1:=by rw [cmp_high w64 X Y 4 m zau hX hY hm (fun j h1 h2 => HALL.out j (by omega) h2) (by omega),if_pos h]
    have HC:=veil hc
    clear hc
    go_quiet (fail)
    go_wp2
    go_quiet ((go_at_call 134; exact quiet_more (compare_lt _ _ hlt _)))
    go_wp2
    go_ret
    rw [HC.out]
    exact ⟨rfl,zbv (zbv hbel _) _⟩
   ·
    have hne : (wd X m != wd Y m) = false:=by unfold wd; rw [h]; simp
    go_quiet (fail)
    go_wp2
    go_roundw
    case rel => exact ⟨m,by omega,by go_num,fun j h1 h2 => by
     by_cases e : j = m
     ·
      rw [e]; exact h
     ·
      exact HALL.out j (by omega) h2,zcy hRX _,zcy hRY _,zbv hbel _⟩
    case measure => simp [intOf]
   ·
    have hlt:=wd_cmp h
    have hne : (wd X m != wd Y m) = true:=by rw [bne_iff_ne]; omega
    have hc : cmpN X Y = 1:=by rw [cmp_high w64 X Y 4 m zau hX hY hm (fun j h1 h2 => HALL.out j (by omega) h2) (by omega),if_neg (by omega)]
    have HC:=veil hc
    clear hc
    go_quiet (fail)
    go_wp2
    go_quiet ((go_at_call 134; exact quiet_more (compare_gt _ _ hlt _)))
    go_wp2
    go_ret
    rw [HC.out]
    exact ⟨rfl,zbv (zbv hbel _) _⟩
end Go.Proofs.YtihophdbkjhopaaGreatDoor
