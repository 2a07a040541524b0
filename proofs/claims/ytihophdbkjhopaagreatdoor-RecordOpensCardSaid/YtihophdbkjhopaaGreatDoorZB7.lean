/-
  Of Sto Fre Frh Tn.
-/
import Derived.Test.YtihophdbkjhopaaGreatDoorZB6
import Derived.Test.YtihophdbkjhopaaGreatDoorZB3
set_option maxRecDepth 1000000
set_option maxHeartbeats 20000000
namespace Go.Proofs.YtihophdbkjhopaaGreatDoor
open Go.RowKit
open Go.Value renaming int → vI
open Go.IntKind renaming u64 → vU
open Go.Act renaming put → aP
open List renaming setIfInBounds_toArray → lA, set_cons_zero → lZ, set_cons_succ → lS
def lowSt (ops : Array Oper) : Bool:=(List.range ops.size).all fun i => match ops[i]? with
 | some o => o.after.toList.all fun e => !Region.binds .any e || decide (e.on < i)
 | none => true
def tmpsB (o : Oper) : List Tmp:=o.op.operands.toList.filterMap fun | .tmp t => some t | _ => none
def knowB (ops : Array Oper) : Bool:=(List.range ops.size).all fun i => match ops[i]? with
 | some o => o.guard.isNone && (tmpsB o).all fun t => (List.range ops.size).all fun j => match ops[j]? with
  | some oj => !(oj.dst == some t) || o.after.toList.any fun e => decide (e.on = j) && Region.binds .any e
  | none => true
 | none => true
def dstB (size : Nat) : List Oper → Bool
 | [] => true
 | o :: r => (match o.dst with | some d => decide (d < size) && !(dstsB r).contains d | none => true) && dstB size r
theorem zgc (a : Act) (d : Tmp) (v : Value) (t : Nat) : (a.put (some d) v).tmps[t]? = if t = d ∧ d < a.tmps.size then some v else a.tmps[t]?:=by
 rw [zgv,Array.getElem?_setIfInBounds]
 by_cases h : d = t
 ·
  subst h
  by_cases h2 : d < a.tmps.size
  ·
   rw [if_pos rfl,if_pos h2,if_pos ⟨rfl,h2⟩]
  ·
   rw [if_pos rfl,if_neg h2,if_neg fun h => h2 h.2]
   exact (Array.getElem?_eq_none (Nat.le_of_not_lt h2)).symm
 ·
  rw [if_neg h,if_neg fun e => h e.1.symm]
theorem zfn (a : Act) (d : Option Tmp) (v : Value) : (a.put d v).tmps.size = a.tmps.size:=by
 cases d with
 | none => rfl
 | some d => rw [zgv]; simp
theorem put_defers (a : Act) (d : Option Tmp) (v : Value) : (a.put d v).defers = a.defers:=by cases d <;> rfl
section
variable {P : Program} {Q : Exit → Act → World → Prop}
theorem all_listed {ops : Array Oper} (hB : lowSt ops = true) {listed : Array Bool} (hsz : listed.size = ops.size) (hr : Region.ready .any ops listed = []) : ∀ i,i < ops.size → listed.getD i false = true:=by
 intro i
 induction i using Nat.strongRecOn with
 | _ i ih =>
  intro hi
  cases hl : listed.getD i false with
  | true => rfl
  | false =>
   exfalso
   have ho:=Array.getElem?_eq_getElem hi
   have hlow:=List.all_eq_true.1 hB i (List.mem_range.2 hi)
   rw [ho] at hlow
   have h2 : i ∈ Region.ready .any ops listed:=mem_ready.2 ⟨by
    have h3 : i < listed.size:=by omega
    have e : listed.getD i true = listed.getD i false:=by simp [Array.getD,h3]
    rw [e,hl],_,ho,fun e he hb => by
     have h3:=List.all_eq_true.1 hlow e (Array.mem_toList_iff.2 he)
     rw [hb,Bool.not_true,Bool.false_or] at h3
     have h4:=of_decide_eq_true h3
     exact ih e.on h4 (by omega)⟩
   rw [hr] at h2
   cases h2
theorem Chg.setRow {F : Nat → Prop} {w w' : World} (h : Chg F w w') {k : Nat} (hk : F k) (c : Array Value) : Chg F w (w'.setRow k c) :=
 ⟨h.os,h.tape,h.output,by simpa [World.setRow] using h.size,fun z hz hn => (zaz w' c (show z ≠ k from fun e => hn (by rw [e]; exact hk))).trans (h.block z hz hn)⟩
def ASt (l : List Oper) (A : Act) (listed : Array Bool) (a : Act) : Prop :=
 a.defers = A.defers ∧ a.tmps.size = A.tmps.size ∧ ∀ t,(∀ j o,l[j]? = some o → o.dst = some t → listed.getD j false = true) → a.tmps[t]? = A.tmps[t]?
theorem ASt.eval {l : List Oper} {A a : Act} {listed : Array Bool} (h : ASt l A listed a) (hK : knowB l.toArray = true) {i : Nat} {o : Oper} (hi : l[i]? = some o) (hr : i ∈ Region.ready .any l.toArray listed) : ∀ x ∈ o.op.operands,a.eval x = A.eval x:=by
 intro x hx
 cases x with
 | tmp t =>
  have h1:=List.all_eq_true.1 hK i (List.mem_range.2 (by simpa using (List.getElem?_eq_some_iff.1 hi).1))
  have hi' : l.toArray[i]? = some o:=by simpa using hi
  rw [hi'] at h1
  simp only [Bool.and_eq_true] at h1
  have ht : t ∈ tmpsB o:=by
   unfold tmpsB
   rw [List.mem_filterMap]
   exact ⟨.tmp t,Array.mem_toList_iff.2 hx,rfl⟩
  have h2:=List.all_eq_true.1 h1.2 t ht
  have h3:=h.2.2 t fun j oj hj hd => by
   have h4:=List.all_eq_true.1 h2 j (List.mem_range.2 (by simpa using (List.getElem?_eq_some_iff.1 hj).1))
   have hj' : l.toArray[j]? = some oj:=by simpa using hj
   rw [hj'] at h4
   simp only [hd,BEq.rfl,Bool.not_true,Bool.false_or] at h4
   obtain ⟨e,he,h5⟩:=List.any_eq_true.1 h4
   simp only [Bool.and_eq_true,decide_eq_true_eq] at h5
   obtain ⟨_,o',ho',hall⟩:=mem_ready.1 hr
   obtain rfl : o = o':=Option.some.inj (hi'.symm.trans ho')
   have h6:=hall e (Array.mem_toList_iff.1 he) h5.2
   rwa [h5.1] at h6
  show a.tmps.getD t undef = A.tmps.getD t undef
  rw [Array.getD_eq_getD_getElem?,Array.getD_eq_getD_getElem?,h3]
 | _ => rfl
theorem ASt.put {l : List Oper} {A a : Act} {listed : Array Bool} (h : ASt l A listed a) {i : Nat} {o : Oper} {v : Value} (hi : l[i]? = some o) (hv : ∀ d,o.dst = some d → A.tmps[d]? = some v) : ASt l A (listed.setIfInBounds i true) (a.put o.dst v):=by
 refine ⟨by rw [put_defers]; exact h.1,by rw [zfn]; exact h.2.1,fun t ht => ?_⟩
 have old : (∀ d,o.dst = some d → d ≠ t) → a.tmps[t]? = A.tmps[t]?:=fun hne => h.2.2 t fun j oj hj hd => by
  have h1:=ht j oj hj hd
  by_cases e : i = j
  ·
   subst e
   obtain rfl : o = oj:=Option.some.inj (hi.symm.trans hj)
   exact absurd rfl (hne t hd)
  ·
   rwa [getD_set_ne false e] at h1
 cases ho : o.dst with
 | none =>
  show a.tmps[t]? = _
  exact old fun d hd => by rw [ho] at hd; cases hd
 | some d =>
  rw [zgc]
  by_cases e : t = d
  ·
   have h2:=hv d ho
   have h3 : d < a.tmps.size:=by rw [h.2.1]; exact (Array.getElem?_eq_some_iff.1 h2).1
   rw [if_pos ⟨e,h3⟩,e,h2]
  ·
   rw [if_neg fun h => e h.1]
   exact old fun d' hd' => by
    rw [ho] at hd'
    injection hd' with hd'
    subst hd'
    exact fun h => e h.symm
def unl (listed : Array Bool) : Nat → Nat
 | 0 => 0
 | n + 1 => unl listed n + if listed.getD n false = true then 0 else 1
theorem unl_far {listed : Array Bool} {i : Nat} : ∀ {n : Nat},n ≤ i → unl (listed.setIfInBounds i true) n = unl listed n
 | 0,_ => rfl
 | n + 1,h => by
  show unl _ n + _ = unl _ n + _
  rw [unl_far (n:=n) (by omega),getD_set_ne false (show i ≠ n by omega)]
theorem unl_set {listed : Array Bool} {i : Nat} (hl : listed.getD i false = false) (hsz : i < listed.size) : ∀ {n : Nat},i < n → unl (listed.setIfInBounds i true) n + 1 = unl listed n
 | 0,h => by omega
 | n + 1,h => by
  show unl _ n + _ + 1 = unl _ n + _
  by_cases e : i = n
  ·
   subst e
   have : (listed.setIfInBounds i true).getD i false = true:=by simp [Array.getD,hsz]
   rw [unl_far (Nat.le_refl _),this,hl]
   simp
  ·
   rw [getD_set_ne false e]
   have:=unl_set hl hsz (n:=n) (by omega)
   omega
theorem unl_zero {listed : Array Bool} : ∀ {n : Nat},unl listed n = 0 → ∀ i,i < n → listed.getD i false = true
 | 0,_,i,hi => by omega
 | n + 1,h,i,hi => by
  have h1 : unl listed n + (if listed.getD n false = true then 0 else 1) = 0:=h
  by_cases e : i = n
  ·
   subst e
   cases hl : listed.getD i false with
   | true => rfl
   | false => rw [hl] at h1; simp at h1
  ·
   exact unl_zero (n:=n) (by omega) i (by omega)
theorem unl_new (m : Nat) : ∀ n,unl (Array.replicate m false) n = n
 | 0 => rfl
 | n + 1 => by
  show unl _ n + _ = _
  rw [unl_new m n,getD_replicate_false]
  rfl
end
inductive Sp
 | fix (v : Value)
 | var (p : List Value → World → Prop)
 | new (t : TypeId) (zs : Array Value)
 | old (k : Nat) (t : TypeId) (zs : Array Value) (c : List Value → Array Value)
 | sto (j : Nat) (c : List Value → Array Value)
structure Pl where
 ds : List Nat
 sp : Sp
def noPl : Pl:=⟨[],.fix undef⟩
abbrev spA (pl : List Pl) (i : Nat) : Sp:=(pl.getD i noPl).sp
abbrev dsA (pl : List Pl) (i : Nat) : List Nat:=(pl.getD i noPl).ds
def blk : Value → Nat
 | .pointer (some ⟨g,_,_⟩) => g
 | _ => 0
def putF : List Oper → Nat → (Nat → Value) → Act → Act
 | [],_,_,a => a
 | o :: l,i,vs,a => putF l (i + 1) vs (a.put o.dst (vs i))
theorem zej : ∀ (l : List Oper) (i : Nat) (vs : Nat → Value) (a : Act),(putF l i vs a).tmps.size = a.tmps.size
 | [],_,_,_ => rfl
 | o :: l,i,vs,a => (zej l (i + 1) vs _).trans (zfn a o.dst _)
theorem zfa : ∀ (l : List Oper) (i : Nat) (vs : Nat → Value) (a : Act),(putF l i vs a).defers = a.defers
 | [],_,_,_ => rfl
 | o :: l,i,vs,a => (zfa l (i + 1) vs _).trans (put_defers a o.dst _)
theorem zjp : ∀ (l : List Oper) (i : Nat) (vs : Nat → Value) (a : Act) {t : Nat},t ∉ dstsB l → (putF l i vs a).tmps[t]? = a.tmps[t]?
 | [],_,_,_,_,_ => rfl
 | o :: l,i,vs,a,t,h => by
  have hr : t ∉ dstsB l:=fun hh => h (by unfold dstsB; exact List.mem_append_right _ hh)
  refine (zjp l (i + 1) vs _ hr).trans ?_
  cases ho : o.dst with
  | none => rfl
  | some d =>
   rw [zgc,if_neg]
   intro e
   exact h (by unfold dstsB; rw [ho]; simp [e.1])
theorem putF_at : ∀ (l : List Oper) (k : Nat) (vs : Nat → Value) (a : Act) {i d : Nat} {o : Oper},dstB a.tmps.size l = true → l[i]? = some o → o.dst = some d → (putF l k vs a).tmps[d]? = some (vs (k + i))
 | [],_,_,_,_,_,_,_,h,_ => by simp at h
 | o' :: l,k,vs,a,0,d,o,hB,h,hd => by
  obtain rfl : o' = o:=by simpa using h
  unfold dstB at hB
  rw [hd] at hB
  simp only [Bool.and_eq_true,decide_eq_true_eq,Bool.not_eq_true'] at hB
  show (putF l (k + 1) vs (a.put o'.dst (vs k))).tmps[d]? = some (vs k)
  rw [zjp l _ vs _ (fun hh => by
   have : (dstsB l).contains d = true:=by simpa using hh
   rw [hB.1.2] at this; cases this),hd,zgc,if_pos ⟨rfl,hB.1.1⟩]
 | o' :: l,k,vs,a,i + 1,d,o,hB,h,hd => by
  unfold dstB at hB
  simp only [Bool.and_eq_true] at hB
  have:=putF_at l (k + 1) vs (a.put o'.dst (vs k)) (i:=i) (by rw [zfn]; exact hB.2) (by simpa using h) hd
  rw [show k + 1 + i = k + (i + 1) by omega] at this
  exact this
theorem putF_congr : ∀ (l : List Oper) (k : Nat) (vs vs' : Nat → Value) (a a' : Act) {t : Nat},a.tmps[t]? = a'.tmps[t]? → a.tmps.size = a'.tmps.size → (∀ j o,l[j]? = some o → o.dst = some t → vs (k + j) = vs' (k + j)) → (putF l k vs a).tmps[t]? = (putF l k vs' a').tmps[t]?
 | [],_,_,_,_,_,_,h,_,_ => h
 | o :: l,k,vs,vs',a,a',t,h,hs,hv => by
  refine putF_congr l (k + 1) vs vs' _ _ ?_ (by rw [zfn,zfn,hs]) fun j o' hj hd => by
   have:=hv (j + 1) o' (by simpa using hj) hd
   rwa [show k + (j + 1) = k + 1 + j by omega] at this
  cases ho : o.dst with
  | none => exact h
  | some d =>
   rw [zgc,zgc,hs,h]
   by_cases e : t = d
   ·
    have:=hv 0 o rfl (by rw [ho,e])
    rw [show k + 0 = k by omega] at this
    rw [this]
   ·
    rw [if_neg fun h => e h.1,if_neg fun h => e h.1]
theorem mem_dsts {t : Nat} : ∀ (l : List Oper),t ∈ dstsB l → ∃ (j : Nat) (o : Oper),l[j]? = some o ∧ o.dst = some t
 | [],h => by cases h
 | o :: r,h => by
  unfold dstsB at h
  rcases List.mem_append.1 h with h | h
  ·
   refine ⟨0,o,rfl,?_⟩
   cases ho : o.dst with
   | none => rw [ho] at h; cases h
   | some d =>
    rw [ho] at h
    rw [List.mem_singleton.1 h]
  ·
   obtain ⟨j,o',h1,h2⟩:=mem_dsts r h
   exact ⟨j + 1,o',by simpa using h1,h2⟩
def depB (l : List Oper) (pl : List Pl) : Bool:=(List.range l.length).all fun i => match l[i]? with
 | some o => (dsA pl i).all fun m => o.after.toList.any fun e => Region.binds .any e && (e.on == m || (dsA pl e.on).contains m)
 | none => true
def freB (size : Nat) (l : List Oper) (pl : List Pl) : Bool:=Region.noSelect l.toArray && lowSt l.toArray && knowB l.toArray && dstB size l && depB l pl
section
variable {P : Program} {Q : Exit → Act → World → Prop}
def uponV (P : Program) (w : World) (p : Value → World → Prop) : Result Next → Prop
 | .ok (.value u) w' => p u w' ∧ Ext w w'
 | .ok (.enter f args) w' => Calls P f args w' fun e w'' => ∃ v,e = .returned v ∧ p v w'' ∧ Ext w w''
 | _ => False
def MadeV (P : Program) (o : Oper) (a : Act) (w : World) (p : Value → World → Prop) : Prop:=uponV P w p ((execOp a.eval o).run P w)
theorem MadeV.wp {o : Oper} {a : Act} {w : World} {p : Value → World → Prop} (h : MadeV P o a w p) {K : Act → World → Prop} (hK : ∀ v W',p v W' → Ext w W' → K (a.put o.dst v) W') : o.wp P a w K Q:=by
 unfold MadeV at h
 unfold Oper.wp
 generalize (execOp a.eval o).run P w = r at *
 cases r with
 | ok n w' =>
  cases n <;> simp only [uponV] at h <;> simp only [Oper.upon]
  case value u => exact hK _ _ h.1 h.2
  case enter f args =>
   refine Calls.mono h fun e w'' ⟨v,he,hp,hw⟩ => ?_
   subst he
   exact hK _ _ hp hw
 | halt x w' => simp only [uponV] at h
variable (l : List Oper) (pl : List Pl) (a0 : Act) (w0 : World)
def FPl (k : Nat) : Prop:=∃ i t zs c,i < l.length ∧ spA pl i = .old k t zs c
def RPl (i : Nat) (vs : Nat → Value) (W : World) : Prop:=match spA pl i with
 | .fix v => vs i = v
 | .var p => p (vs i :: (dsA pl i).map vs) W
 | .new _ _ => ∃ g,vs i = ptrTo g
 | _ => True
def TgPl (t : TypeId) (zs : Array Value) : Prop:=(∃ i,spA pl i = .new t zs) ∨ ∃ i k c,spA pl i = .old k t zs c
def ObPl (P : Program) (i : Nat) (o : Oper) : Prop:=match spA pl i with
 | .fix v => ∀ vs W,Chg (FPl l pl) w0 W → (∀ m ∈ dsA pl i,RPl pl m vs W) → Made P o v (putF l 0 vs a0) W
 | .var p => (∀ vs W,Chg (FPl l pl) w0 W → (∀ m ∈ dsA pl i,RPl pl m vs W) → MadeV P o (putF l 0 vs a0) W fun v W' => p (v :: (dsA pl i).map vs) W') ∧
  (∀ L W W',p L W → Ext W W' → p L W') ∧ (∀ L W k zs t c,p L W → W.heap[k]? = some (.cells zs t (0,0)) → TgPl pl t zs → p L (W.setRow k c))
 | .new t zs => ∃ ty,o.op = .alloc ty ∧ ∀ W,(Instr.alloc ty true (.tuple #[])).run P W = .ok (ptrTo W.heap.size) (W.alloc (.cells zs t))
 | .old k t zs c => o.dst = none ∧ w0.heap[k]? = some (.cells zs t (0,0)) ∧ ∃ ty x y,o.op = .store ty x y ∧ ∀ vs W,(∀ m ∈ dsA pl i,RPl pl m vs W) →
  (putF l 0 vs a0).eval x = ptrTo k ∧ (putF l 0 vs a0).eval y = .agg (c ((dsA pl i).map vs)) ∧ (P.info? ty).map (·.size) = some (c ((dsA pl i).map vs)).size ∧ zs.size = (c ((dsA pl i).map vs)).size ∧ (c ((dsA pl i).map vs)).all (·.oneCell') = true
 | .sto j c => o.dst = none ∧ j ∈ dsA pl i ∧ ∃ t zs,spA pl j = .new t zs ∧ ∃ ty x y,o.op = .store ty x y ∧ ∀ vs W,(∀ m ∈ dsA pl i,RPl pl m vs W) →
  (putF l 0 vs a0).eval x = vs j ∧ (putF l 0 vs a0).eval y = .agg (c ((dsA pl i).map vs)) ∧ (P.info? ty).map (·.size) = some (c ((dsA pl i).map vs)).size ∧ zs.size = (c ((dsA pl i).map vs)).size ∧ (c ((dsA pl i).map vs)).all (·.oneCell') = true
structure IPl (listed : Array Bool) (vs : Nat → Value) (W : World) : Prop where
 chg : Chg (FPl l pl) w0 W
 deps : ∀ i,i < l.length → listed.getD i false = true → ∀ m ∈ dsA pl i,listed.getD m false = true
 rel : ∀ i,i < l.length → listed.getD i false = true → RPl pl i vs W
 lo : ∀ i t zs,i < l.length → listed.getD i false = true → spA pl i = .new t zs → w0.heap.size ≤ blk (vs i) ∧ blk (vs i) < W.heap.size
 empty : ∀ i t zs,i < l.length → listed.getD i false = true → spA pl i = .new t zs → (∀ s c,s < l.length → spA pl s = .sto i c → listed.getD s false = false) → W.heap[blk (vs i)]? = some (.cells zs t (0,0))
 full : ∀ i t zs s c,i < l.length → listed.getD i false = true → spA pl i = .new t zs → s < l.length → spA pl s = .sto i c → listed.getD s false = true → W.heap[blk (vs i)]? = some (.cells (c ((dsA pl s).map vs)) t (0,0))
 sep : ∀ i j t zs t' zs',i < l.length → j < l.length → listed.getD i false = true → listed.getD j false = true → spA pl i = .new t zs → spA pl j = .new t' zs' → i ≠ j → blk (vs i) ≠ blk (vs j)
 todo : ∀ i k t zs c,i < l.length → spA pl i = .old k t zs c → listed.getD i false = false → W.heap[k]? = some (.cells zs t (0,0))
 done : ∀ i k t zs c,i < l.length → spA pl i = .old k t zs c → listed.getD i false = true → W.heap[k]? = some (.cells (c ((dsA pl i).map vs)) t (0,0))
end
section
variable {P : Program} {l : List Oper} {pl : List Pl} {a0 : Act} {w0 : World} {listed : Array Bool} {vs : Nat → Value} {W W' : World} {i : Nat}
def updV (vs : Nat → Value) (i : Nat) (v : Value) : Nat → Value:=fun m => if m = i then v else vs m
theorem zdc (vs : Nat → Value) (i : Nat) (v : Value) : updV vs i v i = v:=if_pos rfl
theorem zdw {vs : Nat → Value} {i m : Nat} {v : Value} (h : m ≠ i) : updV vs i v m = vs m:=if_neg h
theorem zjs {vs : Nat → Value} {i : Nat} {v : Value} {ds : List Nat} (h : i ∉ ds) : ds.map (updV vs i v) = ds.map vs:=List.map_congr_left fun _ hm => zdw fun e => h (e ▸ hm)
theorem zav (_ : listed.getD i false = false) {j : Nat} (hj : (listed.setIfInBounds i true).getD j false = true) (hne : j ≠ i) : listed.getD j false = true:=by rwa [getD_set_ne false fun e => hne e.symm] at hj
theorem zhi {j : Nat} (hj : (listed.setIfInBounds i true).getD j false = false) : listed.getD j false = false:=by
 cases h : listed.getD j false with
 | false => rfl
 | true => rw [getD_set_true h] at hj; cases hj
theorem IPl.notin (h : IPl l pl w0 listed vs W) (hun : listed.getD i false = false) {j : Nat} (hjl : j < l.length) (hj : listed.getD j false = true) : i ∉ dsA pl j:=fun hm => by
 have:=h.deps j hjl hj i hm
 rw [hun] at this
 cases this
theorem IPl.ext (h : IPl l pl w0 listed vs W) (k : Ext W W') (hst : ∀ j,j < l.length → listed.getD j false = true → RPl pl j vs W → RPl pl j vs W') : IPl l pl w0 listed vs W' where
 chg:=h.chg.ext k
 deps:=h.deps
 rel j hj hl:=hst j hj hl (h.rel j hj hl)
 lo j t zs hj hl hs:=by obtain ⟨h1,h2⟩:=h.lo j t zs hj hl hs; exact ⟨h1,Nat.lt_of_lt_of_le h2 (Below.size k)⟩
 empty j t zs hj hl hs hn:=k.block (h.empty j t zs hj hl hs hn)
 full j t zs s c hj hl hs hsl hsp hls:=k.block (h.full j t zs s c hj hl hs hsl hsp hls)
 sep:=h.sep
 todo j k' t zs c hj hs hl:=k.block (h.todo j k' t zs c hj hs hl)
 done j k' t zs c hj hs hl:=k.block (h.done j k' t zs c hj hs hl)
theorem IPl.put (h : IPl l pl w0 listed vs W) (hi : i < l.length) (hsz : i < listed.size) (hun : listed.getD i false = false) (hd : ∀ m ∈ dsA pl i,listed.getD m false = true) {v : Value} (hr : RPl pl i (updV vs i v) W)
  (hnew : ∀ t zs,spA pl i = .new t zs → w0.heap.size ≤ blk v ∧ blk v < W.heap.size ∧ W.heap[blk v]? = some (.cells zs t (0,0)) ∧ ∀ j t' zs',j < l.length → listed.getD j false = true → spA pl j = .new t' zs' → blk (vs j) ≠ blk v)
  (hso : ∀ k t zs c,spA pl i ≠ .old k t zs c) (hss : ∀ j c,spA pl i ≠ .sto j c) (hlate : ∀ s c,s < l.length → spA pl s = .sto i c → listed.getD s false = false) : IPl l pl w0 (listed.setIfInBounds i true) (updV vs i v) W:=by
 have hself : (listed.setIfInBounds i true).getD i false = true:=by simp [Array.getD,hsz]
 have ne : ∀ {j},listed.getD j false = true → j ≠ i:=fun {j} hj e => by subst e; rw [hun] at hj; cases hj
 have old : ∀ {j},j < l.length → listed.getD j false = true → RPl pl j vs W → RPl pl j (updV vs i v) W:=fun {j} hjl hj hrj => by
  unfold RPl at hrj ⊢
  rw [zdw (ne hj),zjs (h.notin hun hjl hj)]
  exact hrj
 refine ⟨h.chg,fun j hj hl m hm => ?_,fun j hj hl => ?_,fun j t zs hj hl hs => ?_,fun j t zs hj hl hs hn => ?_,fun j t zs s c hj hl hs hsl hsp hls => ?_,fun j j' t zs t' zs' hj hj' hl hl' hs hs' hne => ?_,fun j k t zs c hj hs hl => ?_,fun j k t zs c hj hs hl => ?_⟩
 ·
  by_cases e : j = i
  ·
   subst e; exact getD_set_true (hd m hm)
  ·
   exact getD_set_true (h.deps j hj (zav hun hl e) m hm)
 ·
  by_cases e : j = i
  ·
   subst e; exact hr
  ·
   exact old hj (zav hun hl e) (h.rel j hj (zav hun hl e))
 ·
  by_cases e : j = i
  ·
   subst e; rw [zdc]; exact ⟨(hnew t zs hs).1,(hnew t zs hs).2.1⟩
  ·
   rw [zdw e]; exact h.lo j t zs hj (zav hun hl e) hs
 ·
  by_cases e : j = i
  ·
   subst e; rw [zdc]; exact (hnew t zs hs).2.2.1
  ·
   rw [zdw e]; exact h.empty j t zs hj (zav hun hl e) hs fun s c hsl hsp => zhi (hn s c hsl hsp)
 ·
  have hsi : s ≠ i:=fun e => by subst e; exact hss _ _ hsp
  have hls':=zav hun hls hsi
  by_cases e : j = i
  ·
   subst e
   have:=hlate s c hsl hsp
   rw [hls'] at this
   cases this
  ·
   rw [zdw e,zjs (h.notin hun hsl hls')]
   exact h.full j t zs s c hj (zav hun hl e) hs hsl hsp hls'
 ·
  by_cases e : j = i
  ·
   subst e
   have hj2:=zav hun hl' fun e => hne e.symm
   rw [zdc,zdw fun e => hne e.symm]
   exact fun e => (hnew t zs hs).2.2.2 j' t' zs' hj' hj2 hs' e.symm
  ·
   by_cases e' : j' = i
   ·
    subst e'
    rw [zdc,zdw e]
    exact (hnew t' zs' hs').2.2.2 j t zs hj (zav hun hl e) hs
   ·
    rw [zdw e,zdw e']
    exact h.sep j j' t zs t' zs' hj hj' (zav hun hl e) (zav hun hl' e') hs hs' hne
 ·
  exact h.todo j k t zs c hj hs (zhi hl)
 ·
  have e : j ≠ i:=fun e => by subst e; exact hso _ _ _ _ hs
  rw [zjs (h.notin hun hj (zav hun hl e))]
  exact h.done j k t zs c hj hs (zav hun hl e)
theorem Chg.setRow_new {F : Nat → Prop} (h : Chg F w0 W) {k : Nat} (hk : w0.heap.size ≤ k) (c : Array Value) : Chg F w0 (W.setRow k c) :=
 ⟨h.os,h.tape,h.output,by simpa [World.setRow] using h.size,fun z hz hn => (zaz W c (show z ≠ k by omega)).trans (h.block z hz hn)⟩
theorem rowSize (W : World) (k : Nat) (c : Array Value) : (W.setRow k c).heap.size = W.heap.size:=by simp [World.setRow]
theorem IPl.old {k : Nat} {t : TypeId} {zs : Array Value} {c : List Value → Array Value} (h : IPl l pl w0 listed vs W) (hi : i < l.length) (hsz : i < listed.size) (hun : listed.getD i false = false) (hd : ∀ m ∈ dsA pl i,listed.getD m false = true) (hs : spA pl i = .old k t zs c) (hk : k < w0.heap.size)
  (hsep : ∀ j t' zs' c',j < l.length → spA pl j = .old k t' zs' c' → j = i)
  (hst : ∀ j,j < l.length → listed.getD j false = true → RPl pl j vs W → RPl pl j vs (W.setRow k (c ((dsA pl i).map vs)))) : IPl l pl w0 (listed.setIfInBounds i true) vs (W.setRow k (c ((dsA pl i).map vs))):=by
 have hself : (listed.setIfInBounds i true).getD i false = true:=by simp [Array.getD,hsz]
 have far : ∀ {g : Nat},w0.heap.size ≤ g → (W.setRow k (c ((dsA pl i).map vs))).heap[g]? = W.heap[g]?:=fun hg => zaz W _ (by omega)
 refine ⟨h.chg.setRow ⟨i,t,zs,c,hi,hs⟩ _,fun j hj hl m hm => ?_,fun j hj hl => ?_,fun j t' zs' hj hl hs' => ?_,fun j t' zs' hj hl hs' hn => ?_,fun j t' zs' s c' hj hl hs' hsl hsp hls => ?_,fun j j' t' zs' t2 zs2 hj hj' hl hl' hs' hs2 hne => ?_,fun j k' t' zs' c' hj hs' hl => ?_,fun j k' t' zs' c' hj hs' hl => ?_⟩
 ·
  by_cases e : j = i
  ·
   subst e; exact getD_set_true (hd m hm)
  ·
   exact getD_set_true (h.deps j hj (zav hun hl e) m hm)
 ·
  by_cases e : j = i
  ·
   subst e; unfold RPl; rw [hs]; trivial
  ·
   exact hst j hj (zav hun hl e) (h.rel j hj (zav hun hl e))
 ·
  have e : j ≠ i:=fun e => by subst e; rw [hs] at hs'; cases hs'
  rw [rowSize]
  exact h.lo j t' zs' hj (zav hun hl e) hs'
 ·
  have e : j ≠ i:=fun e => by subst e; rw [hs] at hs'; cases hs'
  rw [far (h.lo j t' zs' hj (zav hun hl e) hs').1]
  exact h.empty j t' zs' hj (zav hun hl e) hs' fun s c hsl hsp => zhi (hn s c hsl hsp)
 ·
  have e : j ≠ i:=fun e => by subst e; rw [hs] at hs'; cases hs'
  have e2 : s ≠ i:=fun e => by subst e; rw [hs] at hsp; cases hsp
  rw [far (h.lo j t' zs' hj (zav hun hl e) hs').1]
  exact h.full j t' zs' s c' hj (zav hun hl e) hs' hsl hsp (zav hun hls e2)
 ·
  have e : j ≠ i:=fun e => by subst e; rw [hs] at hs'; cases hs'
  have e2 : j' ≠ i:=fun e => by subst e; rw [hs] at hs2; cases hs2
  exact h.sep j j' t' zs' t2 zs2 hj hj' (zav hun hl e) (zav hun hl' e2) hs' hs2 hne
 ·
  have e : j ≠ i:=fun e => by subst e; rw [hself] at hl; cases hl
  have hkk : k' ≠ k:=fun ek => by subst ek; exact e (hsep j _ _ _ hj hs')
  exact (zaz W _ hkk).trans (h.todo j k' t' zs' c' hj hs' (zhi hl))
 ·
  by_cases e : j = i
  ·
   subst e
   rw [hs] at hs'
   injection hs' with e1 e2 e3 e4
   subst e1 e2 e3 e4
   exact setRow_heap W k zs _ t (0,0) (h.todo j k t zs c hj hs hun)
  ·
   have hkk : k' ≠ k:=fun ek => by subst ek; exact e (hsep j _ _ _ hj hs')
   exact (zaz W _ hkk).trans (h.done j k' t' zs' c' hj hs' (zav hun hl e))
theorem IPl.sto {j0 : Nat} {t : TypeId} {zs : Array Value} {c : List Value → Array Value} (hF : ∀ k,FPl l pl k → k < w0.heap.size) (h : IPl l pl w0 listed vs W) (hi : i < l.length) (hsz : i < listed.size) (hun : listed.getD i false = false) (hd : ∀ m ∈ dsA pl i,listed.getD m false = true) (hs : spA pl i = .sto j0 c) (hj0 : j0 < l.length) (hl0 : listed.getD j0 false = true) (hs0 : spA pl j0 = .new t zs)
  (huni : ∀ s c',s < l.length → spA pl s = .sto j0 c' → s = i)
  (hst : ∀ j,j < l.length → listed.getD j false = true → RPl pl j vs W → RPl pl j vs (W.setRow (blk (vs j0)) (c ((dsA pl i).map vs)))) : IPl l pl w0 (listed.setIfInBounds i true) vs (W.setRow (blk (vs j0)) (c ((dsA pl i).map vs))):=by
 have hself : (listed.setIfInBounds i true).getD i false = true:=by simp [Array.getD,hsz]
 have hb:=h.lo j0 t zs hj0 hl0 hs0
 have hem:=h.empty j0 t zs hj0 hl0 hs0 fun s c' hsl hsp => by rw [huni s c' hsl hsp]; exact hun
 have far : ∀ {g : Nat},g ≠ blk (vs j0) → (W.setRow (blk (vs j0)) (c ((dsA pl i).map vs))).heap[g]? = W.heap[g]?:=fun hg => zaz W _ hg
 have isnt : ∀ {j t' zs'},spA pl j = .new t' zs' → j ≠ i:=fun hs' e => by subst e; rw [hs] at hs'; cases hs'
 refine ⟨h.chg.setRow_new hb.1 _,fun j hj hl m hm => ?_,fun j hj hl => ?_,fun j t' zs' hj hl hs' => ?_,fun j t' zs' hj hl hs' hn => ?_,fun j t' zs' s c' hj hl hs' hsl hsp hls => ?_,fun j j' t' zs' t2 zs2 hj hj' hl hl' hs' hs2 hne => ?_,fun j k' t' zs' c' hj hs' hl => ?_,fun j k' t' zs' c' hj hs' hl => ?_⟩
 ·
  by_cases e : j = i
  ·
   subst e; exact getD_set_true (hd m hm)
  ·
   exact getD_set_true (h.deps j hj (zav hun hl e) m hm)
 ·
  by_cases e : j = i
  ·
   subst e; unfold RPl; rw [hs]; trivial
  ·
   exact hst j hj (zav hun hl e) (h.rel j hj (zav hun hl e))
 ·
  rw [rowSize]
  exact h.lo j t' zs' hj (zav hun hl (isnt hs')) hs'
 ·
  have hne : j ≠ j0:=fun e => by
   subst e
   have:=hn i c hi hs
   rw [hself] at this
   cases this
  rw [far (h.sep j j0 t' zs' t zs hj hj0 (zav hun hl (isnt hs')) hl0 hs' hs0 hne)]
  exact h.empty j t' zs' hj (zav hun hl (isnt hs')) hs' fun s c hsl hsp => zhi (hn s c hsl hsp)
 ·
  by_cases e : j = j0
  ·
   subst e
   have e2:=huni s c' hsl hsp
   subst e2
   rw [hs] at hsp
   injection hsp with _ e3
   subst e3
   rw [hs0] at hs'
   injection hs' with e4 e5
   subst e4 e5
   exact setRow_heap W _ zs _ t (0,0) hem
  ·
   have e2 : s ≠ i:=fun e2 => by
    subst e2
    rw [hs] at hsp
    injection hsp with e3 _
    exact e e3.symm
   rw [far (h.sep j j0 t' zs' t zs hj hj0 (zav hun hl (isnt hs')) hl0 hs' hs0 e)]
   exact h.full j t' zs' s c' hj (zav hun hl (isnt hs')) hs' hsl hsp (zav hun hls e2)
 ·
  exact h.sep j j' t' zs' t2 zs2 hj hj' (zav hun hl (isnt hs')) (zav hun hl' (isnt hs2)) hs' hs2 hne
 ·
  have hk:=hF k' ⟨j,t',zs',c',hj,hs'⟩
  rw [far (by omega)]
  exact h.todo j k' t' zs' c' hj hs' (zhi hl)
 ·
  have hk:=hF k' ⟨j,t',zs',c',hj,hs'⟩
  have e : j ≠ i:=fun e => by subst e; rw [hs] at hs'; cases hs'
  rw [far (by omega)]
  exact h.done j k' t' zs' c' hj hs' (zav hun hl e)
theorem ASt.upd {a : Act} {o : Oper} {v : Value} (hB : dstB a0.tmps.size l = true) (h : ASt l (putF l 0 vs a0) listed a) (hi : l[i]? = some o) (_ : listed.getD i false = false) : ASt l (putF l 0 (updV vs i v) a0) (listed.setIfInBounds i true) (a.put o.dst v):=by
 refine ⟨by rw [put_defers,h.1,zfa,zfa],by rw [zfn,h.2.1,zej,zej],fun t ht => ?_⟩
 by_cases ho : o.dst = some t
 ·
  have h2:=putF_at l 0 (updV vs i v) a0 hB hi ho
  rw [Nat.zero_add,zdc] at h2
  have h3 : t < a.tmps.size:=by
   have:=(Array.getElem?_eq_some_iff.1 h2).1
   rw [zej] at this
   rw [h.2.1,zej]
   exact this
  rw [h2,ho,zgc,if_pos ⟨rfl,h3⟩]
 ·
  have hw : ∀ j oj,l[j]? = some oj → oj.dst = some t → j ≠ i:=fun j oj hj hd e => by
   subst e
   obtain rfl : o = oj:=Option.some.inj (hi.symm.trans hj)
   exact ho hd
  have h1:=h.2.2 t fun j oj hj hd => by
   have:=ht j oj hj hd
   rwa [getD_set_ne false fun e => hw j oj hj hd e.symm] at this
  have h2 : (a.put o.dst v).tmps[t]? = a.tmps[t]?:=by
   cases hd : o.dst with
   | none => rfl
   | some d => rw [zgc,if_neg fun e => ho (by rw [hd,e.1])]
  rw [h2,h1]
  exact putF_congr l 0 vs (updV vs i v) a0 a0 rfl rfl fun j oj hj hd => by rw [Nat.zero_add,zdw (hw j oj hj hd)]
end
section
variable {P : Program} {Q : Exit → Act → World → Prop} {l : List Oper} {pl : List Pl} {a0 : Act} {w0 : World}
theorem fre_any (hm : Region.noSelect l.toArray = true) (hlow : lowSt l.toArray = true) (hK : knowB l.toArray = true) (hB : dstB a0.tmps.size l = true) (hdep : depB l pl = true)
  (hsep : ∀ i j k t zs c t' zs' c',i < l.length → j < l.length → spA pl i = .old k t zs c → spA pl j = .old k t' zs' c' → i = j) (huni : ∀ i i' j c c',i < l.length → i' < l.length → spA pl i = .sto j c → spA pl i' = .sto j c' → i = i')
  (hob : ∀ i o,l[i]? = some o → ObPl l pl a0 w0 P i o) (hQ : ∀ vs W,IPl l pl w0 (Array.replicate l.length true) vs W → Q .normal (putF l 0 vs a0) W) :
  ∀ (f : Nat) (listed : Array Bool) (a : Act) (w : World),listed.size = l.length → unl listed l.length ≤ f → (∃ vs,ASt l (putF l 0 vs a0) listed a ∧ IPl l pl w0 listed vs w) → wpAny P .any l.toArray Q f listed a w:=by
 have hF : ∀ k,FPl l pl k → k < w0.heap.size:=fun k ⟨i,t,zs,c,hi,hs⟩ => by
  have h:=hob i _ (List.getElem?_eq_getElem hi)
  unfold ObPl at h
  rw [hs] at h
  exact (Array.getElem?_eq_some_iff.1 h.2.1).1
 have fin : ∀ (listed : Array Bool) (a : Act) (w : World),listed.size = l.length → (∀ i,i < l.length → listed.getD i false = true) → (∃ vs,ASt l (putF l 0 vs a0) listed a ∧ IPl l pl w0 listed vs w) → Q .normal a w:=fun listed a w hsz hall ⟨vs,hA,hI⟩ => by
  have e : a = putF l 0 vs a0:=by
   obtain ⟨t1,d1⟩:=a
   have e1 : d1 = (putF l 0 vs a0).defers:=hA.1
   have e2 : t1 = (putF l 0 vs a0).tmps:=Array.ext_getElem? fun t => hA.2.2 t fun j o hj _ => hall j (List.getElem?_eq_some_iff.1 hj).1
   rw [e1,e2]
  have e3 : listed = Array.replicate l.length true:=by
   apply Array.ext_getElem?
   intro i
   by_cases hi : i < l.length
   ·
    have:=hall i hi
    rw [Array.getD_eq_getD_getElem?] at this
    rw [Array.getElem?_replicate,if_pos hi]
    rw [Array.getElem?_eq_getElem (by omega)] at this ⊢
    simpa using this
   ·
    rw [Array.getElem?_eq_none (by omega),Array.getElem?_eq_none (by simp; omega)]
  rw [e]
  exact hQ vs w (by rw [← e3]; exact hI)
 intro f
 induction f with
 | zero =>
  intro listed a w hsz hu hI
  have hall:=unl_zero (Nat.le_zero.1 hu)
  refine ⟨?_,fin listed a w hsz hall hI⟩
  cases hr : Region.ready .any l.toArray listed with
  | nil => rfl
  | cons i r =>
   exfalso
   have h1 : i ∈ Region.ready .any l.toArray listed:=by rw [hr]; exact List.mem_cons_self
   obtain ⟨h2,o,ho,_⟩:=mem_ready.1 h1
   have h3 : i < l.length:=by simpa using (Array.getElem?_eq_some_iff.1 ho).1
   have h5:=getD_both h2
   rw [hall i h3] at h5
   cases h5
 | succ f ih =>
  intro listed a w hsz hu hI
  refine ⟨fun hr => fin listed a w hsz (fun i hi => all_listed hlow (by simpa using hsz) hr i (by simpa using hi)) hI,fun i hi => ?_⟩
  obtain ⟨h2,o,ho,hafter⟩:=mem_ready.1 hi
  have hun:=getD_both h2
  have h3 : i < l.length:=by simpa using (Array.getElem?_eq_some_iff.1 ho).1
  have h3s : i < listed.size:=by omega
  have hil : l[i]? = some o:=by simpa using ho
  obtain ⟨vs,hA,hP⟩:=hI
  have hg : o.guard = none:=by
   have h4:=List.all_eq_true.1 hK i (List.mem_range.2 (by simpa using h3))
   rw [ho] at h4
   simp only [Bool.and_eq_true] at h4
   simpa using h4.1
  have hd : ∀ m ∈ dsA pl i,listed.getD m false = true:=fun m hm' => by
   have h4:=List.all_eq_true.1 hdep i (List.mem_range.2 h3)
   rw [hil] at h4
   obtain ⟨e,he,h5⟩:=List.any_eq_true.1 (List.all_eq_true.1 h4 m hm')
   simp only [Bool.and_eq_true,Bool.or_eq_true,beq_iff_eq,List.contains_iff_mem] at h5
   have h6:=hafter e (Array.mem_toList_iff.1 he) h5.1
   rcases h5.2 with h7 | h7
   ·
    rwa [h7] at h6
   ·
    have h8 : e.on < l.length:=by
     have h9:=List.all_eq_true.1 hlow i (List.mem_range.2 (by simpa using h3))
     rw [ho] at h9
     have h10:=List.all_eq_true.1 h9 e he
     rw [h5.1,Bool.not_true,Bool.false_or] at h10
     have:=of_decide_eq_true h10
     omega
    exact hP.deps e.on h8 h6 m h7
  have he : execOp a.eval o = execOp (putF l 0 vs a0).eval o:=execOp_congr o (fun cs b => Region.noSelect_spec hm i o cs b ho) (hA.eval hK hil hi)
  have hmi : ∀ m ∈ dsA pl i,m < l.length:=fun m hm' => by
   have:=hd m hm'
   rw [Array.getD_eq_getD_getElem?] at this
   rcases Nat.lt_or_ge m l.length with h | h
   ·
    exact h
   ·
    rw [Array.getElem?_eq_none (by omega)] at this; cases this
  have hRd : ∀ m ∈ dsA pl i,RPl pl m vs w:=fun m hm' => hP.rel m (hmi m hm') (hd m hm')
  have stE : ∀ W W',Ext W W' → ∀ j,j < l.length → RPl pl j vs W → RPl pl j vs W':=fun W W' k j hj hr => by
   have hj':=hob j _ (List.getElem?_eq_getElem hj)
   unfold ObPl at hj'
   unfold RPl at hr ⊢
   cases hs : spA pl j with
   | var p => rw [hs] at hj' hr; exact hj'.2.1 _ W W' hr k
   | fix v => rw [hs] at hr; exact hr
   | new t zs => rw [hs] at hr; exact hr
   | old k t zs c => trivial
   | sto j c => trivial
  have stS : ∀ W k zs t c,W.heap[k]? = some (.cells zs t (0,0)) → TgPl pl t zs → ∀ j,j < l.length → RPl pl j vs W → RPl pl j vs (W.setRow k c):=fun W k zs t c hb hT j hj hr => by
   have hj':=hob j _ (List.getElem?_eq_getElem hj)
   unfold ObPl at hj'
   unfold RPl at hr ⊢
   cases hs : spA pl j with
   | var p => rw [hs] at hj' hr; exact hj'.2.2 _ W k zs t c hr hb hT
   | fix v => rw [hs] at hr; exact hr
   | new t zs => rw [hs] at hr; exact hr
   | old k t zs c => trivial
   | sto j c => trivial
  have hk:=hob i o hil
  have hcount : unl (listed.setIfInBounds i true) l.length ≤ f:=by have:=unl_set hun h3s h3; omega
  refine zbd ho hg ?_
  unfold ObPl at hk
  cases hs : spA pl i with
  | fix v =>
   rw [hs] at hk
   have hmd : Made P o v a w:=by
    have h5:=hk vs w hP.chg hRd
    unfold Made at h5 ⊢
    rw [he]
    exact h5
   refine Made.wp hmd (Ext.refl w) fun W' hW' => ih _ _ _ (by simpa using hsz) hcount ⟨updV vs i v,hA.upd hB hil hun,?_⟩
   refine (hP.ext hW' fun j hj _ hr => stE _ _ hW' j hj hr).put h3 h3s hun hd ?_ (fun t zs h => by rw [hs] at h; cases h) (fun k t zs c h => by rw [hs] at h; cases h) (fun j c h => by rw [hs] at h; cases h) (fun s c hsl hsp => ?_)
   ·
    unfold RPl; rw [hs]; exact zdc _ _ _
   ·
    exfalso
    have h6:=hob s _ (List.getElem?_eq_getElem hsl)
    unfold ObPl at h6
    rw [hsp] at h6
    obtain ⟨_,_,t,zs,h7,_⟩:=h6
    rw [hs] at h7
    cases h7
  | var p =>
   rw [hs] at hk
   have hmd : MadeV P o a w fun v W' => p (v :: (dsA pl i).map vs) W':=by
    have h5:=hk.1 vs w hP.chg hRd
    unfold MadeV at h5 ⊢
    rw [he]
    exact h5
   have hni : i ∉ dsA pl i:=fun h => by have:=hd i h; rw [hun] at this; cases this
   refine MadeV.wp hmd fun v W' hp hW' => ih _ _ _ (by simpa using hsz) hcount ⟨updV vs i v,hA.upd hB hil hun,?_⟩
   refine (hP.ext hW' fun j hj _ hr => stE _ _ hW' j hj hr).put h3 h3s hun hd ?_ (fun t zs h => by rw [hs] at h; cases h) (fun k t zs c h => by rw [hs] at h; cases h) (fun j c h => by rw [hs] at h; cases h) (fun s c hsl hsp => ?_)
   ·
    unfold RPl; rw [hs]
    show p (updV vs i v i :: (dsA pl i).map (updV vs i v)) W'
    rw [zdc,zjs hni]
    exact hp
   ·
    exfalso
    have h6:=hob s _ (List.getElem?_eq_getElem hsl)
    unfold ObPl at h6
    rw [hsp] at h6
    obtain ⟨_,_,t,zs,h7,_⟩:=h6
    rw [hs] at h7
    cases h7
  | new t zs =>
   rw [hs] at hk
   obtain ⟨ty,hop,hz⟩:=hk
   refine zcf hop hz (ih _ _ _ (by simpa using hsz) hcount ⟨updV vs i (ptrTo w.heap.size),hA.upd hB hil hun,?_⟩)
   have hW':=Ext.alloc w (.cells zs t)
   refine (hP.ext hW' fun j hj _ hr => stE _ _ hW' j hj hr).put h3 h3s hun hd ?_ (fun t' zs' h => ?_) (fun k t zs c h => by rw [hs] at h; cases h) (fun j c h => by rw [hs] at h; cases h) (fun s c hsl hsp => ?_)
   ·
    unfold RPl; rw [hs]; exact ⟨_,zdc _ _ _⟩
   ·
    rw [hs] at h
    injection h with e1 e2
    subst e1 e2
    refine ⟨hP.chg.size,?_,zab w _,fun j t' zs' hj hl hs' => ?_⟩
    ·
     show w.heap.size < (w.alloc _).heap.size
     rw [World.size_alloc]
     exact Nat.lt_succ_self _
    ·
     have:=(hP.lo j t' zs' hj hl hs').2
     show blk (vs j) ≠ w.heap.size
     omega
   ·
    cases hls : listed.getD s false with
    | false => rfl
    | true =>
     have h6:=hob s _ (List.getElem?_eq_getElem hsl)
     unfold ObPl at h6
     rw [hsp] at h6
     have h7:=hP.deps s hsl hls i h6.2.1
     rw [hun] at h7
     cases h7
  | old k t zs c =>
   rw [hs] at hk
   obtain ⟨hdst,hb0,ty,x,y,hop,hxy⟩:=hk
   obtain ⟨hx,hy,hinf,hsz2,hone⟩:=hxy vs w hRd
   have hxa:=hA.eval hK hil hi x (by rw [hop]; simp [Op.operands])
   have hya:=hA.eval hK hil hi y (by rw [hop]; simp [Op.operands])
   have hb:=hP.todo i k t zs c h3 hs hun
   refine wp_store_row ty x y hop k _ (hxa.trans hx) (hya.trans hy) t zs hb hinf hsz2 hone (ih _ _ _ (by simpa using hsz) hcount ⟨vs,hA.put hil (fun d hd' => by rw [hdst] at hd'; cases hd'),?_⟩)
   exact hP.old h3 h3s hun hd hs (Array.getElem?_eq_some_iff.1 hb0).1 (fun j t' zs' c' hj hs' => hsep j i k t' zs' c' t zs c hj h3 hs' hs) fun j hj _ hr => stS w k zs t _ hb (.inr ⟨i,k,c,hs⟩) j hj hr
  | sto j0 c =>
   rw [hs] at hk
   obtain ⟨hdst,hj0,t,zs,hs0,ty,x,y,hop,hxy⟩:=hk
   obtain ⟨hx,hy,hinf,hsz2,hone⟩:=hxy vs w hRd
   have hxa:=hA.eval hK hil hi x (by rw [hop]; simp [Op.operands])
   have hya:=hA.eval hK hil hi y (by rw [hop]; simp [Op.operands])
   have hl0:=hd j0 hj0
   have hj0l:=hmi j0 hj0
   have hb:=hP.empty j0 t zs hj0l hl0 hs0 fun s c' hsl hsp => by rw [huni s i j0 c' c hsl h3 hsp hs]; exact hun
   have hr0:=hP.rel j0 hj0l hl0
   unfold RPl at hr0
   rw [hs0] at hr0
   obtain ⟨g,hg0⟩:=hr0
   have hbg : blk (vs j0) = g:=by rw [hg0]; rfl
   rw [hbg] at hb
   refine wp_store_row ty x y hop g _ (hxa.trans (hx.trans hg0)) (hya.trans hy) t zs hb hinf hsz2 hone (ih _ _ _ (by simpa using hsz) hcount ⟨vs,hA.put hil (fun d hd' => by rw [hdst] at hd'; cases hd'),?_⟩)
   have h9:=hP.sto hF h3 h3s hun hd hs hj0l hl0 hs0 (fun s c' hsl hsp => huni s i j0 c' c hsl h3 hsp hs) fun j hj _ hr => by
    rw [hbg]
    exact stS w g zs t _ hb (.inl ⟨j0,hs0⟩) j hj hr
   rwa [hbg] at h9
theorem wp_free {id : Nat} (pl : List Pl) (hm : P.follows .mixedOrders = true) (hB : freB a0.tmps.size l pl = true)
  (hsep : ∀ i j k t zs c t' zs' c',i < l.length → j < l.length → spA pl i = .old k t zs c → spA pl j = .old k t' zs' c' → i = j) (huni : ∀ i i' j c c',i < l.length → i' < l.length → spA pl i = .sto j c → spA pl i' = .sto j c' → i = i')
  (hob : ∀ i o,l[i]? = some o → ObPl l pl a0 w0 P i o) (hQ : ∀ vs W,IPl l pl w0 (Array.replicate l.length true) vs W → Q .normal (putF l 0 vs a0) W) : (Code.region id l.toArray true).wp P Q a0 w0:=by
 unfold freB at hB
 simp only [Bool.and_eq_true] at hB
 obtain ⟨⟨⟨⟨hsel,hlow⟩,hK⟩,hdst⟩,hdep⟩:=hB
 refine wp_region_any hm ?_
 have h:=fre_any (Q:=Q) (pl:=pl) hsel hlow hK hdst hdep hsep huni hob hQ l.length (Array.replicate l.length false) a0 w0.drew (by simp) (by rw [unl_new]; exact Nat.le_refl _)
  ⟨fun _ => undef,⟨(zfa l 0 _ a0).symm,(zej l 0 _ a0).symm,fun t ht => (zjp l 0 _ a0 fun hd => by
   obtain ⟨j,o,hj,hd⟩:=mem_dsts l hd
   have h1:=ht j o hj hd
   rw [getD_replicate_false] at h1
   cases h1).symm⟩,
   {chg:=(Chg.refl _ _).drew
    deps:=fun i _ hl => (by rw [getD_replicate_false] at hl; cases hl)
    rel:=fun i _ hl => (by rw [getD_replicate_false] at hl; cases hl)
    lo:=fun i _ _ _ hl => (by rw [getD_replicate_false] at hl; cases hl)
    empty:=fun i _ _ _ hl => (by rw [getD_replicate_false] at hl; cases hl)
    full:=fun i _ _ _ _ _ hl => (by rw [getD_replicate_false] at hl; cases hl)
    sep:=fun i _ _ _ _ _ _ _ hl => (by rw [getD_replicate_false] at hl; cases hl)
    todo:=fun i k t zs c hi hs _ => by
     have h1:=hob i _ (List.getElem?_eq_getElem hi)
     unfold ObPl at h1
     rw [hs] at h1
     exact h1.2.1
    done:=fun i _ _ _ _ _ _ hl => (by rw [getD_replicate_false] at hl; cases hl) }⟩
 simpa using h
/-! ### how its parts are given -/
def ObL (l : List Oper) (pl : List Pl) (a0 : Act) (w0 : World) (P : Program) : Nat → List Oper → Prop
 | _,[] => True
 | k,o :: r => ObPl l pl a0 w0 P k o ∧ ObL l pl a0 w0 P (k + 1) r
theorem obL_get : ∀ {r : List Oper} {k : Nat},ObL l pl a0 w0 P k r → ∀ i o,r[i]? = some o → ObPl l pl a0 w0 P (k + i) o
 | [],_,_,_,_,h => by simp at h
 | o' :: r,k,h,0,o,hi => by
  obtain rfl : o' = o:=by simpa using hi
  exact h.1
 | o' :: r,k,h,i + 1,o,hi => by
  have:=obL_get h.2 i o (by simpa using hi)
  rwa [show k + 1 + i = k + (i + 1) by omega] at this
def oldL (pl : List Pl) : List (Option Nat):=pl.map fun p => match p.sp with
 | .old k _ _ _ => some k
 | _ => none
def stoL (pl : List Pl) : List (Option Nat):=pl.map fun p => match p.sp with
 | .sto j _ => some j
 | _ => none
def apartL (L : List (Option Nat)) : Prop:=L.Pairwise fun x y => ∀ k,x = some k → y ≠ some k
theorem oldL_at {i k : Nat} {t : TypeId} {zs : Array Value} {c : List Value → Array Value} (h : spA pl i = .old k t zs c) : (oldL pl)[i]? = some (some k):=by
 unfold oldL
 rw [List.getElem?_map]
 unfold spA at h
 rw [List.getD_eq_getElem?_getD] at h
 cases hp : pl[i]? with
 | none => rw [hp] at h; cases h
 | some p =>
  rw [hp] at h
  have h' : p.sp = .old k t zs c:=h
  simp only [Option.map_some,h']
theorem stoL_at {i j : Nat} {c : List Value → Array Value} (h : spA pl i = .sto j c) : (stoL pl)[i]? = some (some j):=by
 unfold stoL
 rw [List.getElem?_map]
 unfold spA at h
 rw [List.getD_eq_getElem?_getD] at h
 cases hp : pl[i]? with
 | none => rw [hp] at h; cases h
 | some p =>
  rw [hp] at h
  have h' : p.sp = .sto j c:=h
  simp only [Option.map_some,h']
theorem apartL_one {L : List (Option Nat)} (h : apartL L) {i j k : Nat} (hi : L[i]? = some (some k)) (hj : L[j]? = some (some k)) : i = j:=by
 unfold apartL at h
 rw [List.pairwise_iff_getElem] at h
 obtain ⟨hil,hi⟩:=List.getElem?_eq_some_iff.1 hi
 obtain ⟨hjl,hj⟩:=List.getElem?_eq_some_iff.1 hj
 rcases Nat.lt_trichotomy i j with c | c | c
 ·
  exact absurd hj (h i j hil hjl c k hi)
 ·
  exact c
 ·
  exact absurd hi (h j i hjl hil c k hj)
theorem zff {id : Nat} (pl : List Pl) (hm : P.follows .mixedOrders = true) (hB : freB a0.tmps.size l pl = true) (hO : apartL (oldL pl)) (hS : apartL (stoL pl)) (hob : ObL l pl a0 w0 P 0 l)
  (hQ : ∀ vs W,Hid (IPl l pl w0 (Array.replicate l.length true) vs W) → Q .normal (putF l 0 vs a0) W) : (Code.region id l.toArray true).wp P Q a0 w0 :=
 wp_free pl hm hB (fun _ _ _ _ _ _ _ _ _ _ _ hi hj => apartL_one hO (oldL_at hi) (oldL_at hj)) (fun _ _ _ _ _ _ _ hi hj => apartL_one hS (stoL_at hi) (stoL_at hj))
  (fun i o hi => by have:=obL_get hob i o hi; rwa [Nat.zero_add] at this) fun vs W h => hQ vs W (veil h)
theorem ev_at {vs : Nat → Value} {i d : Nat} {o : Oper} (hB : dstB a0.tmps.size l = true) (hi : l[i]? = some o) (hd : o.dst = some d) : (putF l 0 vs a0).eval (.tmp d) = vs i:=by
 have h:=putF_at l 0 vs a0 hB hi hd
 rw [Nat.zero_add] at h
 show (putF l 0 vs a0).tmps.getD d undef = _
 rw [Array.getD_eq_getD_getElem?,h]
 rfl
theorem zan {vs : Nat → Value} {d : Nat} (h : (dstsB l).contains d = false) : (putF l 0 vs a0).eval (.tmp d) = a0.eval (.tmp d):=by
 have h2:=zjp l 0 vs a0 (t:=d) fun hh => by
  have : (dstsB l).contains d = true:=by simpa using hh
  rw [h] at this; cases this
 show (putF l 0 vs a0).tmps.getD d undef = a0.tmps.getD d undef
 rw [Array.getD_eq_getD_getElem?,Array.getD_eq_getD_getElem?,h2]
theorem zgt {n i : Nat} (h : i < n) : (Array.replicate n true).getD i false = true:=by
 rw [Array.getD_eq_getD_getElem?,Array.getElem?_replicate,if_pos h]
 rfl
section
variable {vs : Nat → Value} {W : World}
theorem IPl.R (h : IPl l pl w0 (Array.replicate l.length true) vs W) (i : Nat) (hi : i < l.length) : RPl pl i vs W:=h.rel i hi (zgt hi)
theorem IPl.F (h : IPl l pl w0 (Array.replicate l.length true) vs W) {i s : Nat} {t : TypeId} {zs : Array Value} {c : List Value → Array Value} (hi : i < l.length) (hs : s < l.length) (h1 : spA pl i = .new t zs) (h2 : spA pl s = .sto i c) : ∃ g,vs i = ptrTo g ∧ w0.heap.size ≤ g ∧ g < W.heap.size ∧ W.heap[g]? = some (.cells (c ((dsA pl s).map vs)) t (0,0)):=by
 have hr:=h.R i hi
 unfold RPl at hr
 rw [h1] at hr
 obtain ⟨g,hg⟩:=hr
 have hb : blk (vs i) = g:=by rw [hg]; rfl
 have h3:=h.lo i t zs hi (zgt hi) h1
 have h4:=h.full i t zs s c hi (zgt hi) h1 hs h2 (zgt hs)
 rw [hb] at h3 h4
 exact ⟨g,hg,h3.1,h3.2,h4⟩
theorem IPl.O (h : IPl l pl w0 (Array.replicate l.length true) vs W) {i k : Nat} {t : TypeId} {zs : Array Value} {c : List Value → Array Value} (hi : i < l.length) (h1 : spA pl i = .old k t zs c) : W.heap[k]? = some (.cells (c ((dsA pl i).map vs)) t (0,0)):=h.done i k t zs c hi h1 (zgt hi)
end
end
section
variable {P : Program} {o : Oper} {a : Act} {w : World}
theorem zce {ty : TypeId} {x : Operand} {g t : Nat} {C : Array Value} {fr : Nat × Nat} {d : TypeDesc} (ho : o.op = .load ty x) (hx : a.eval x = ptrTo g) (hb : w.heap[g]? = some (.cells C t fr)) (hu : P.underlying ty = some d) (hd : d.isRow = true) (hi : (P.info? ty).map (·.size) = some C.size) : Made P o (.agg C) a w :=
 zbi fun _ hW => zid ho hx (hW.block hb) hu hd hi
theorem made_cell {ty : TypeId} {x : Operand} {p : Addr} {v : Value} (ho : o.op = .load ty x) (hx : a.eval x = .pointer (some p)) (hb : w.cell? p = some v) (hp : p.block < w.heap.size) (hn : ∀ W,(isAgg ty).run P W = .ok false W) : Made P o v a w:=zbi fun W hW => by
 have hr : W.cell? p = some v:=(Below.cell hW (p:=p) hp).trans hb
 have hl : (load p).run P W = .ok v W:=by simp [go_sem,hr]
 unfold execOp
 simp only [ho,hx,Instr.loadAt,Instr.sureAddr,Sem.run_bind,Sem.run_pure,Result.andThen_ok,loadVar,hn,Bool.false_eq_true,if_false,hl]
theorem map1 {a : Act} {x : Operand} {v : Value} (h : a.eval x = v) : [x].map a.eval = [v]:=by rw [List.map_cons,h]; rfl
theorem z8_u8 : ∀ (j : Nat) (x : Int),Z8[j]? ≠ some (.int .u8 x):=by
 intro j x
 unfold Z8
 match j with
 | 0 | 1 | 2 | 3 | 4 | 5 | 6 | 7 => simp
 | j + 8 => simp
end
def NewB (n : Nat) (A : Option Addr) (bs : List Nat) : Prop:=bs.length = 0 ∨ ∀ b o,A = some ⟨b,o,none⟩ → n ≤ b
def FlN (n : Nat) (w : World) (v : Value) (fs : List Fd) : Prop:=BytF fs ∧ ∃ AL c,v = .slice AL fs.length c ∧ fs.length ≤ c ∧ (fs.length = 0 ∨ ∃ b o,AL = some ⟨b,o,none⟩ ∧ b < w.heap.size ∧
 ∀ i,i < fs.length → w.cell? ⟨b,o + i * 2,none⟩ = some (.int .i64 (tgF fs i)) ∧ ∃ A c',w.cell? ⟨b,o + i * 2 + 1,none⟩ = some (.slice A (bsF fs i).length c') ∧ (bsF fs i).length ≤ c' ∧ Bs w A (bsF fs i) ∧ NewB n A (bsF fs i))
theorem FlN.fl {n : Nat} {w : World} {v : Value} {fs : List Fd} (h : FlN n w v fs) : Fl w v fs:=by
 obtain ⟨hB,AL,c,e,hc,h⟩:=h
 refine ⟨hB,AL,c,e,hc,h.imp id ?_⟩
 rintro ⟨b,o,e,hb,hx⟩
 refine ⟨b,o,e,hb,fun i hi => ?_⟩
 obtain ⟨h1,A,c',h2,h3,h4,_⟩:=hx i hi
 exact ⟨h1,A,c',h2,h3,h4⟩
theorem FlN.ext {n : Nat} {w w' : World} {v : Value} {fs : List Fd} (h : FlN n w v fs) (k : Ext w w') : FlN n w' v fs:=by
 obtain ⟨hB,AL,c,rfl,hc,h⟩:=h
 refine ⟨hB,AL,c,rfl,hc,h.imp id ?_⟩
 rintro ⟨b,o,e,hb,hx⟩
 refine ⟨b,o,e,Nat.lt_of_lt_of_le hb k.size,fun i hi => ?_⟩
 obtain ⟨h1,A,c',h2,h3,h4,h5⟩:=hx i hi
 exact ⟨(k.cell hb).trans h1,A,c',(k.cell hb).trans h2,h3,h4.ext k,h5⟩
theorem NewB.chg {n : Nat} {A : Option Addr} {bs : List Nat} {F : Nat → Prop} {w w' : World} (h : NewB n A bs) (hb : Bs w A bs) (k : Chg F w w') (hF : ∀ z,F z → z < n) : Bs w' A bs:=by
 refine ⟨hb.1,?_⟩
 rcases h with h0 | h
 ·
  exact .inl h0
 ·
  refine hb.2.imp id ?_
  rintro ⟨b,o,e,hbl,hc⟩
  have hnb:=h b o e
  have hnf : ¬ F b:=fun hf => by have:=hF b hf; omega
  exact ⟨b,o,e,Nat.lt_of_lt_of_le hbl k.size,fun j hj => (k.cell (p:=⟨b,o + j,none⟩) hbl hnf).trans (hc j hj)⟩
def OwnFsN (w : World) (base : Nat) (v : Value) (fs : List Fd) : Prop:=BytF fs ∧ ∃ al : List (Option Addr × Nat),al.length = fs.length ∧ w.ownsRow base 75 2 v fs.length (cellsFs fs al) ∧
 ∀ i,i < fs.length → (bsF fs i).length ≤ (al.getD i (none,0)).2 ∧ Bs w (al.getD i (none,0)).1 (bsF fs i) ∧ Off (al.getD i (none,0)).1 (bsF fs i) v.ownBlock ∧ NewB base (al.getD i (none,0)).1 (bsF fs i)
theorem OwnFsN.nil (w : World) (base : Nat) : OwnFsN w base (.slice none 0 0) []:=⟨fun _ h => (by cases h),[],rfl,World.ownsRow_nil _ _ _ _,fun i hi => by simp at hi⟩
theorem OwnFsN.keep {w w' : World} {base : Nat} {v : Value} {fs : List Fd} (o : OwnFsN w base v fs) (h : Ext w w') : OwnFsN w' base v fs:=by
 obtain ⟨hB,al,hl,hr,hx⟩:=o
 refine ⟨hB,al,hl,⟨hr.1,?_⟩,fun i hi => ⟨(hx i hi).1,(hx i hi).2.1.ext h,(hx i hi).2.2⟩⟩
 rcases hr.2 with hn | ⟨g,cap,cur,rfl,hbg,hh,rest⟩
 ·
  exact .inl hn
 ·
  exact .inr ⟨g,cap,cur,rfl,hbg,h.block hh,rest⟩
theorem OwnFsN.lt {w : World} {base : Nat} {v : Value} {fs : List Fd} (o : OwnFsN w base v fs) {k : Nat} (hk : v.ownBlock = some k) : base ≤ k ∧ k < w.heap.size:=by
 obtain ⟨_,al,_,hr,_⟩:=o
 exact World.ownsRow.lt hr k hk
theorem OwnFsN.fln {w : World} {base : Nat} {v : Value} {fs : List Fd} (o : OwnFsN w base v fs) : FlN base w v fs:=by
 obtain ⟨hB,al,hl,hr,hx⟩:=o
 rcases hr.2 with ⟨rfl,h0⟩ | ⟨g,cap,cur,rfl,hbg,hh,hn,hm,hs,ht⟩
 ·
  exact ⟨hB,none,0,by rw [h0],by omega,.inl h0⟩
 ·
  refine ⟨hB,_,cap,rfl,hn,?_⟩
  by_cases h0 : fs.length = 0
  ·
   exact .inl h0
  ·
   refine .inr ⟨g,0,rfl,(Array.getElem?_eq_some_iff.1 hh).1,fun i hi => ?_⟩
   have hcell : ∀ k,k < fs.length * 2 → w.cell? ⟨g,k,none⟩ = (cellsFs fs al)[k]?:=fun k hk => by
    rw [cell_of_row w g k cur _ _ hh,← ht,List.getElem?_take_of_lt hk]
    simp
   obtain ⟨c0,c1⟩:=zix hl hi
   refine ⟨by rw [Nat.zero_add,hcell _ (by omega)]; exact c0,_,_,by rw [Nat.zero_add,hcell _ (by omega)]; exact c1,(hx i hi).1,(hx i hi).2.1,(hx i hi).2.2.2⟩
theorem run_append_fdN {w : World} {base : Nat} {v : Value} {fs : List Fd} (ty : TypeId) (hown : OwnFsN w base v fs) (g : Nat) (f : Fd) (a : Option Addr × Nat) (c1 : Nat)
  (hg : w.heap[g]? = some (.cells #[.int .i64 f.1,.slice a.1 f.2.length a.2] 75 (0,0))) (hc : f.2.length ≤ a.2) (hb : Bs w a.1 f.2) (hne : Off a.1 f.2 v.ownBlock) (hN : NewB base a.1 f.2)
  (hn : fs.length ≤ 1000000000) (hbase : base ≤ w.heap.size) :
  ∃ v' w',(Builtin.append_ #[73,73] ty #[v,.slice (some ⟨g,0,none⟩) 1 c1]).run Tryz.prog w = .ok v' w' ∧ OwnFsN w' base v' (fs ++ [f]) ∧ w.grownBy w' v.ownBlock:=by
 obtain ⟨i,hi,hz,hsz,hby⟩:=zgy infoF16
 obtain ⟨hB,al,hl,hr,hx⟩:=hown
 obtain ⟨v',w',hrun,h2,h3,_,h5⟩:=run_append_own_at (P:=Tryz.prog) w base 73 ty 75 i _ 2 32 Tryz.underlying73 hi hz hsz hby rfl (by decide) v fs.length (cellsFs fs al) hr ⟨g,0,none⟩ 1 c1 [.int .i64 f.1,.slice a.1 f.2.length a.2] rfl
  (fun j u hu => by
   rw [Addr.add_mid,Nat.zero_add,cell_of_row w g j _ _ _ hg]
   simpa using hu)
  (fun u hu => by
   simp only [List.mem_cons,List.not_mem_nil,or_false] at hu
   rcases hu with rfl | rfl <;> rfl) (by unfold maxLen; omega) (by omega) hbase
 refine ⟨v',w',hrun,⟨?_,al ++ [a],by simp [hl],?_,fun k hk => ?_⟩,h3⟩
 ·
  intro x hx'
  rcases List.mem_append.1 hx' with h | h
  ·
   exact hB x h
  ·
   rw [List.mem_singleton.1 h]; exact hb.1
 ·
  rw [zew f a hl,List.length_append]
  exact h2
 ·
  have hout : ∀ (A : Option Addr) (bs : List Nat),Bs w A bs → Off A bs v.ownBlock → Off A bs v'.ownBlock:=by
   intro A bs hA hn1
   rcases hn1 with h0 | hn1
   ·
    exact .inl h0
   ·
    rcases hA.2 with h | ⟨b',o',e',hb',_⟩
    ·
     exact .inl h
    ·
     refine .inr fun b o e e2 => ?_
     rw [e] at e'
     injection e' with e'
     injection e' with e4
     rcases h5 with h5 | h5
     ·
      rw [h5] at e2; exact hn1 b o e e2
     ·
      rw [h5] at e2
      have e3 : w.heap.size = b:=by injection e2
      omega
  rw [List.length_append,List.length_singleton] at hk
  by_cases hlt : k < fs.length
  ·
   obtain ⟨e1,e2⟩:=tgF_lt (f:=f) hlt
   have e3 : (al ++ [a]).getD k (none,0) = al.getD k (none,0):=by
    simp only [List.getD_eq_getElem?_getD,List.getElem?_append_left (show k < al.length by omega)]
   obtain ⟨x1,x2,x3,x4⟩:=hx k hlt
   rw [e2,e3]
   exact ⟨x1,x2.but h3 x3,hout _ _ x2 x3,x4⟩
  ·
   obtain rfl : k = fs.length:=by omega
   obtain ⟨e1,e2⟩:=tgF_last fs f
   have e3 : (al ++ [a]).getD fs.length (none,0) = a:=by
    rw [← hl]
    simp
   rw [e2,e3]
   exact ⟨hc,hb.but h3 hne,hout _ _ hb hne,hN⟩
section
variable {Q : Exit → Act → World → Prop} {l : List Oper} {n k d : Nat} {r : Sched} {a : Act} {w : World}
theorem zfk {s x : Operand} {base g c : Nat} {v : Value} {fs : List Fd} {f : Fd} {al : Option Addr × Nat} (o : Oper) (ho : l[k]? = some o) (hgd : o.guard = none) (hop : o.op = .call { callee:=.builtin .append,args:=#[s,x],argTypes:=#[73,73] }) (hd : o.dst = some d)
  (hs : a.eval s = v) (hx : a.eval x = .slice (some ⟨g,0,none⟩) 1 c) (hkn : ¬ k < n) (hown : OwnFsN w base v fs) (hg : w.heap[g]? = some (.cells #[.int .i64 f.1,.slice al.1 f.2.length al.2] 75 (0,0)))
  (hc : f.2.length ≤ al.2) (hb : Bs w al.1 f.2) (hne : Off al.1 f.2 v.ownBlock) (hN : NewB base al.1 f.2) (hn : fs.length ≤ 1000000000) (hbase : base ≤ w.heap.size)
  (h : ∀ v' W W',Ext w W → OwnFsN W' base v' (fs ++ [f]) → W.grownBy W' v.ownBlock → wpSched Tryz.prog l Q n r (a.put (some d) v') W') : wpSched Tryz.prog l Q n ((false,[k]) :: r) a w:=by
 refine zdd o ho hgd fun W hW => ?_
 obtain ⟨v',w',hr,hO,hG⟩:=run_append_fdN (c1:=c) o.type (hown.keep hW) g f al (hW.block hg) hc (hb.ext hW) hne hN hn (Nat.le_trans hbase (Below.size hW))
 unfold Oper.wp execOp
 simp only [hop,resolve,invoke,builtin,Sem.run_bind,Sem.run_pure,Result.andThen_ok,List.map_toArray,List.map_cons,List.map_nil,hs,hx,hr]
 show (k < n → Ext W w') ∧ _
 rw [hd]
 exact ⟨fun h => absurd h hkn,h v' W w' hW hO hG⟩
end
theorem rget8n_calls (A : Option Addr) (m c : Nat) (bs : List Nat) (hm : m = bs.length) (hmc : m ≤ c) (hle : m ≤ 100000000) (w : World) (hS : Bs w A bs) :
  Calls Tryz.prog 41 #[.slice A m c] w fun e w' => Ext w w' ∧ ((getFs bs = none ∧ e = .returned (.tuple #[.slice none 0 0,.bool false])) ∨ (∃ fs v,getFs bs = some fs ∧ FlN w.heap.size w' v fs ∧ e = .returned (.tuple #[v,.bool true]))):=by
 have HS:=veil hS
 have HM:=veil hm
 clear hS hm
 go_enter Tryz.func41,Tryz.ntmps41
 go_wp2
 go_loopw [4,5,6] (fun v u _ wr => ∃ (p : Nat) (fs : List Fd),p ≤ m ∧ u = .int .i64 (p : Int) ∧ OwnFsN wr w.heap.size v fs ∧ fs.length ≤ p ∧ parse bs = (parse (bs.drop p)).map (fs ++ ·) ∧ Ext w wr)
  (fun _ v _ _ => m - (intOf v).toNat)
 case atStart => exact ⟨0,[],by omega,rfl,OwnFsN.nil _ _,by simp,by simp,Ext.refl _⟩
 case round =>
  obtain ⟨p,fs,hp,rfl,hO,hfl,hpar,hE⟩:=hrel
  by_cases hlt : p < m
  ·
   have hd1 : decide ((p : Int) < (m : Int)) = true:=by simp; omega
   have hii : (p : Int) < (m : Int):=by omega
   by_cases h3 : m < p + 3
   ·
    have hd2 : decide ((m : Int) < (p : Int) + 3) = true:=by simp; omega
    have hn : getFs bs = none:=by
     rw [zba,hpar,parse_short (by have:=HM.out; omega) (by have:=HM.out; omega)]
     rfl
    clear hpar hO
    go_wp2
    go_ret2
    exact ⟨hE,.inl ⟨hn,rfl⟩⟩
   ·
    have hd2 : decide ((m : Int) < (p : Int) + 3) = false:=by simp; omega
    have hb:=HS.out.ext hE
    obtain ⟨b,o,hA,hbl,c1⟩:=hb.cell (j:=p + 1) (by have:=HM.out; omega)
    obtain ⟨b',o',hA',_,c2⟩:=hb.cell (j:=p + 2) (by have:=HM.out; omega)
    obtain ⟨b'',o'',hA'',_,c0⟩:=hb.cell (j:=p) (by have:=HM.out; omega)
    obtain ⟨e1,e2⟩ : b' = b ∧ o' = o:=by rw [hA] at hA'; injection hA' with h; injection h with h1 h2; exact ⟨h1.symm,h2.symm⟩
    obtain ⟨e3,e4⟩ : b'' = b ∧ o'' = o:=by rw [hA] at hA''; injection hA'' with h; injection h with h1 h2; exact ⟨h1.symm,h2.symm⟩
    subst e1 e2 e3 e4
    have l1:=HS.out.1.getD (p + 1)
    have l2:=HS.out.1.getD (p + 2)
    have l0:=HS.out.1.getD p
    obtain ⟨X,hX⟩ : ∃ X,X = bs.getD (p + 1) 0:=⟨_,rfl⟩
    obtain ⟨Y,hY⟩ : ∃ Y,Y = bs.getD (p + 2) 0:=⟨_,rfl⟩
    obtain ⟨T,hT⟩ : ∃ T,T = bs.getD p 0:=⟨_,rfl⟩
    rw [← hX] at c1 l1
    rw [← hY] at c2 l2
    rw [← hT] at c0 l0
    have HXY:=veil (And.intro hX (And.intro hY hT))
    have k1 : (X : Int) ≤ 255:=by omega
    have k2 : (Y : Int) ≤ 255:=by omega
    have k0 : (T : Int) ≤ 255:=by omega
    have i1 : (p : Int) + 1 < (m : Int):=by omega
    have i2 : (p : Int) + 2 < (m : Int):=by omega
    have HO:=veil (And.intro hO (And.intro hfl hpar))
    have HB:=veil hb
    clear hX hY hT l1 l2 l0 hA' hA'' hO hfl hpar hb
    subst hA
    go_wp2_with fail
    go_quiet (fail)
    obtain ⟨N,hN⟩ : ∃ N,N = 256 * X + Y:=⟨_,rfl⟩
    have hNi : (256 * (X : Int) + (Y : Int)) = (N : Int):=by omega
    have hN2 : N ≤ 65535:=by omega
    have HN:=veil hN
    rw [hNi]
    clear hN hNi c1 c2 k1 k2 i1 i2
    generalize hwr : wr.drewN nq = wr1 at *
    have hE1 : Ext wr wr1:=by rw [← hwr]; exact Ext.drewK _ _
    have hc0 : wr1.cell? ⟨b'',o'' + p,none⟩ = some (.int .u8 T):=(hE1.cell hbl).trans c0
    have hEE:=hE.trans hE1
    have HO1:=veil (And.intro (HO.out.1.keep hE1) (HB.out.ext hE1))
    clear hwr c0
    by_cases h4 : m < p + 3 + N
    ·
     have hd3 : decide ((m : Int) < (p : Int) + 3 + (N : Int)) = true:=by simp; omega
     have hn : getFs bs = none:=by
      rw [zba,HO.out.2.2,zii (n:=N) (by have:=HM.out; omega) (by rw [HN.out,HXY.out.1,HXY.out.2.1]) (by have:=HM.out; omega)]
      rfl
     go_wp2
     go_ret2
     exact ⟨hEE,.inl ⟨hn,rfl⟩⟩
    ·
     have hd3 : decide ((m : Int) < (p : Int) + 3 + (N : Int)) = false:=by simp; omega
     have hst:=zih (n:=N) (by have:=HM.out; omega) (by rw [HN.out,HXY.out.1,HXY.out.2.1]) (by have:=HM.out; omega : p + 3 + N ≤ bs.length)
     have HST:=veil hst
     clear hst
     go_upto_region 9 with (fail)
     refine zem 18 [(true,[0,1,2,3,4,5,7,8,9,10,11,12,13,14]),(false,[6]),(false,[15]),(true,[16]),(false,[17]),(false,[18]),(false,[19])] (by kernel_rfl) (by kernel_rfl) fun Q' hQ' => ?_
     refine' zca (A:=_) _ rfl (by kernel_rfl) ?h1 ?h2
     case h1 =>
      intro D hD hN
      have d0:=hD.cell hc0
      simp only [pickI,consO,List.getElem?_cons_zero,List.getElem?_cons_succ]
      iterate 13 (go_big_quiet_step (fail))
      go_big_quiet_want
      refine zds (.slice (cutA (some ⟨b'',o'',none⟩) (p + 3) c) N (c - (p + 3))) (fun x => zez rfl rfl rfl rfl (cut_mid _ _ _ _ _ (by omega) _ (by omega) (by omega))) ?_
      simp only [aP,lA,lZ,lS]
      go_big_quiet_on
      exact zcx
     refine zde (vs:=[]) (C:=#[]) (e:=5) _ rfl rfl rfl rfl rfl (fun W => by simp [Instr.buildSlice,go_sem]) ?_
     intro g W hg hgb hEW
     simp only [aP,lA,lZ,lS]
     have hBc:=(HO1.out.2.cut (p + 3) (n:=N) (c:=c) (by have:=HM.out; omega) (by have:=HM.out; omega)).ext hEW
     have hl : N = ((bs.drop (p + 3)).take N).length:=by rw [List.length_take,List.length_drop]; have:=HM.out; omega
     refine zhy _ rfl rfl rfl rfl rfl rfl hgb hBc hl (by omega) ?_
     intro A' c' W2 hE2 hc' hB' hF'
     simp only [aP,lA,lZ,lS]
     have HB2:=veil (And.intro hB' (And.intro hF' hl))
     have hEW2:=hEW.trans hE2
     have hsz:=Below.size hEW
     clear hB' hF' hl hBc hgb hg hE2 hEW
     refine' zca (A:=_) _ rfl (by kernel_rfl) ?k1 ?k2
     case k1 =>
      intro D hD hN
      simp only [pickI,consO,List.getElem?_cons_zero,List.getElem?_cons_succ]
      repeat (go_big_quiet_step (fail))
      exact zcx
     refine zde (vs:=[(0,.agg #[.int .i64 (T : Int),.slice A' N c'])]) (C:=#[.int .i64 (T : Int),.slice A' N c']) (e:=75) _ rfl rfl rfl rfl rfl (fun W => by simp [Instr.buildSlice,go_sem]) ?_
     intro g2 W3 hg2 hgb2 hE3
     simp only [aP,lA,lZ,lS]
     have hEW3:=hEW2.trans hE3
     have hown3:=HO1.out.1.keep hEW3
     have hoff : Off A' ((bs.drop (p + 3)).take N) (Value.ownBlock u4):=HB2.out.2.1.off fun k hk => Nat.lt_of_lt_of_le (HO1.out.1.lt hk).2 hsz
     have hBn:=HB2.out.1.ext hE3
     have hnew : NewB w.heap.size A' ((bs.drop (p + 3)).take N):=HB2.out.2.1.imp id fun h b o e => Nat.le_trans (Nat.le_trans (Below.size hEE) hsz) (h b o e)
     have hbase:=Nat.le_trans (Below.size hEE) (Below.size hEW3)
     have hNl:=HB2.out.2.2
     have hfl : fs.length ≤ 1000000000:=by have:=HO.out.2.1; omega
     rw [hNl] at hgb2 hc'
     refine zfk (f:=((T : Int),(bs.drop (p + 3)).take N)) (al:=(A',c')) _ rfl rfl rfl rfl rfl rfl (by decide) hown3 hgb2 hc' hBn hoff hnew hfl hbase ?_
     intro v' W4 W5 hE4 hO5 hG5
     simp only [aP,lA,lZ,lS]
     have hE5 : Ext w W5:=(hEE.trans (hEW3.trans hE4)).grown hG5 (Below.size (hEE.trans (hEW3.trans hE4))) fun k hk => (HO1.out.1.lt hk).1
     have HO5:=veil (And.intro hO5 hE5)
     clear hown3 hoff hBn hbase hNl hgb2 hc' hO5 hE5 hG5
     refine zdj v' _ rfl rfl rfl rfl rfl ?_
     intro W6 hE6
     simp only [aP,lA,lZ,lS]
     refine zdr hQ' fun W7 hE7 => ?_
     go_wp2
     go_roundw
     case rel =>
      refine ⟨p + 3 + N,_,by omega,by go_num,(HO5.out.1.keep hE6).keep hE7,?_,?_,HO5.out.2.trans (hE6.trans hE7)⟩
      ·
       rw [List.length_append,List.length_singleton]; have:=HO.out.2.1; omega
      ·
       rw [HO.out.2.2,HST.out,← HXY.out.2.2]
       cases parse (bs.drop (p + 3 + N)) with
       | none => rfl
       | some x => simp
     case measure => simp [intOf]; omega
  ·
   obtain rfl : p = m:=by omega
   have hd1 : decide ((p : Int) < (p : Int)) = false:=by simp
   have hpar2 : parse bs = some fs:=by
    rw [hpar,HM.out,parse_end]
    simp
   have hF:=hO.fln
   have HP:=veil (And.intro hpar2 (And.intro hF hE))
   have hfb : fs.length ≤ 1000000000:=by omega
   have KM:=veil (fun v hv => rmay8_calls v fs wr hv hfb)
   clear hpar hpar2 hF hO
   go_upto_region 12 with (go_at_call 76; refine (KM.out _ HP.out.2.1.fl).mono ?_; rintro e w2 ⟨rfl,hE2⟩)
   cases hmay : mayFs fs with
   | false =>
    have hn : getFs bs = none:=by
     rw [zba,HP.out.1]
     simp [hmay]
    go_wp2
    go_ret2
    exact ⟨HP.out.2.2.trans hE2,.inl ⟨hn,rfl⟩⟩
   | true =>
    have hn : getFs bs = some fs:=by
     rw [zba,HP.out.1]
     simp [hmay]
    go_wp2
    go_ret2
    exact ⟨HP.out.2.2.trans hE2,.inr ⟨fs,_,hn,HP.out.2.1.ext hE2,rfl⟩⟩
end Go.Proofs.YtihophdbkjhopaaGreatDoor
