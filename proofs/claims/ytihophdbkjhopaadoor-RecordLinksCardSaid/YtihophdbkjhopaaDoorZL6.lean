/-
  Of Fre Frh Tn Rce Job KA KB Rcf Rch Rcq SMath SSpec.
-/
import Derived.Laws.IdiomStrings
import Derived.Great.BuildSlice
import Derived.WalkKit
import Derived.Test.YtihophdbkjhopaaDoorZL5
import Derived.Test.YtihophdbkjhopaaDoorZL2
import Derived.Test.YtihophdbkjhopaaDoorZL1
set_option maxRecDepth 1000000
set_option maxHeartbeats 20000000
namespace Go.Proofs.YtihophdbkjhopaaDoor
open Go.RowKit
open Go.Value renaming int → vI
open Go.IntKind renaming u64 → vU
open Go.Act renaming put → aP
open List renaming setIfInBounds_toArray → lA, set_cons_zero → lZ, set_cons_succ → lS
inductive Sp
 | fix (v : Value)
 | var (p : List Value → World → Prop)
 | new (t : TypeId) (zs : Array Value)
 | old (k : Nat) (t : TypeId) (zs : Array Value) (c : List Value → Array Value)
 | sto (j : Nat) (c : List Value → Array Value)
structure Pl where
 ds : List Nat
 sp : Sp
def noPl : Pl:=⟨[],.fix undef⟩
abbrev spA (pl : List Pl) (i : Nat) : Sp:=(pl.getD i noPl).sp
abbrev dsA (pl : List Pl) (i : Nat) : List Nat:=(pl.getD i noPl).ds
def blk : Value → Nat
 | .pointer (some ⟨g,_,_⟩) => g
 | _ => 0
def putF : List Oper → Nat → (Nat → Value) → Act → Act
 | [],_,_,a => a
 | o :: l,i,vs,a => putF l (i + 1) vs (a.put o.dst (vs i))
theorem zcs : ∀ (l : List Oper) (i : Nat) (vs : Nat → Value) (a : Act),(putF l i vs a).tmps.size = a.tmps.size
 | [],_,_,_ => rfl
 | o :: l,i,vs,a => (zcs l (i + 1) vs _).trans (zdm a o.dst _)
theorem zdd : ∀ (l : List Oper) (i : Nat) (vs : Nat → Value) (a : Act),(putF l i vs a).defers = a.defers
 | [],_,_,_ => rfl
 | o :: l,i,vs,a => (zdd l (i + 1) vs _).trans (put_defers a o.dst _)
theorem zfz : ∀ (l : List Oper) (i : Nat) (vs : Nat → Value) (a : Act) {t : Nat},t ∉ dstsB l → (putF l i vs a).tmps[t]? = a.tmps[t]?
 | [],_,_,_,_,_ => rfl
 | o :: l,i,vs,a,t,h => by
  have hr : t ∉ dstsB l:=fun hh => h (by unfold dstsB; exact List.mem_append_right _ hh)
  refine (zfz l (i + 1) vs _ hr).trans ?_
  cases ho : o.dst with
  | none => rfl
  | some d =>
   rw [zds,if_neg]
   intro e
   exact h (by unfold dstsB; rw [ho]; simp [e.1])
theorem putF_at : ∀ (l : List Oper) (k : Nat) (vs : Nat → Value) (a : Act) {i d : Nat} {o : Oper},dstB a.tmps.size l = true → l[i]? = some o → o.dst = some d → (putF l k vs a).tmps[d]? = some (vs (k + i))
 | [],_,_,_,_,_,_,_,h,_ => by simp at h
 | o' :: l,k,vs,a,0,d,o,hB,h,hd => by
  obtain rfl : o' = o:=by simpa using h
  unfold dstB at hB
  rw [hd] at hB
  simp only [Bool.and_eq_true,decide_eq_true_eq,Bool.not_eq_true'] at hB
  show (putF l (k + 1) vs (a.put o'.dst (vs k))).tmps[d]? = some (vs k)
  rw [zfz l _ vs _ (fun hh => by
   have : (dstsB l).contains d = true:=by simpa using hh
   rw [hB.1.2] at this; cases this),hd,zds,if_pos ⟨rfl,hB.1.1⟩]
 | o' :: l,k,vs,a,i + 1,d,o,hB,h,hd => by
  unfold dstB at hB
  simp only [Bool.and_eq_true] at hB
  have:=putF_at l (k + 1) vs (a.put o'.dst (vs k)) (i:=i) (by rw [zdm]; exact hB.2) (by simpa using h) hd
  rw [show k + 1 + i = k + (i + 1) by omega] at this
  exact this
theorem putF_congr : ∀ (l : List Oper) (k : Nat) (vs vs' : Nat → Value) (a a' : Act) {t : Nat},a.tmps[t]? = a'.tmps[t]? → a.tmps.size = a'.tmps.size → (∀ j o,l[j]? = some o → o.dst = some t → vs (k + j) = vs' (k + j)) → (putF l k vs a).tmps[t]? = (putF l k vs' a').tmps[t]?
 | [],_,_,_,_,_,_,h,_,_ => h
 | o :: l,k,vs,vs',a,a',t,h,hs,hv => by
  refine putF_congr l (k + 1) vs vs' _ _ ?_ (by rw [zdm,zdm,hs]) fun j o' hj hd => by
   have:=hv (j + 1) o' (by simpa using hj) hd
   rwa [show k + (j + 1) = k + 1 + j by omega] at this
  cases ho : o.dst with
  | none => exact h
  | some d =>
   rw [zds,zds,hs,h]
   by_cases e : t = d
   ·
    have:=hv 0 o rfl (by rw [ho,e])
    rw [show k + 0 = k by omega] at this
    rw [this]
   ·
    rw [if_neg fun h => e h.1,if_neg fun h => e h.1]
theorem mem_dsts {t : Nat} : ∀ (l : List Oper),t ∈ dstsB l → ∃ (j : Nat) (o : Oper),l[j]? = some o ∧ o.dst = some t
 | [],h => by cases h
 | o :: r,h => by
  unfold dstsB at h
  rcases List.mem_append.1 h with h | h
  ·
   refine ⟨0,o,rfl,?_⟩
   cases ho : o.dst with
   | none => rw [ho] at h; cases h
   | some d =>
    rw [ho] at h
    rw [List.mem_singleton.1 h]
  ·
   obtain ⟨j,o',h1,h2⟩:=mem_dsts r h
   exact ⟨j + 1,o',by simpa using h1,h2⟩
def depB (l : List Oper) (pl : List Pl) : Bool:=(List.range l.length).all fun i => match l[i]? with
 | some o => (dsA pl i).all fun m => o.after.toList.any fun e => Region.binds .any e && (e.on == m || (dsA pl e.on).contains m)
 | none => true
def freB (size : Nat) (l : List Oper) (pl : List Pl) : Bool:=Region.noSelect l.toArray && lowSt l.toArray && knowB l.toArray && dstB size l && depB l pl
section
variable {P : Program} {Q : Exit → Act → World → Prop}
def uponV (P : Program) (w : World) (p : Value → World → Prop) : Result Next → Prop
 | .ok (.value u) w' => p u w' ∧ Ext w w'
 | .ok (.enter f args) w' => Calls P f args w' fun e w'' => ∃ v,e = .returned v ∧ p v w'' ∧ Ext w w''
 | _ => False
def MadeV (P : Program) (o : Oper) (a : Act) (w : World) (p : Value → World → Prop) : Prop:=uponV P w p ((execOp a.eval o).run P w)
theorem MadeV.wp {o : Oper} {a : Act} {w : World} {p : Value → World → Prop} (h : MadeV P o a w p) {K : Act → World → Prop} (hK : ∀ v W',p v W' → Ext w W' → K (a.put o.dst v) W') : o.wp P a w K Q:=by
 unfold MadeV at h
 unfold Oper.wp
 generalize (execOp a.eval o).run P w = r at *
 cases r with
 | ok n w' =>
  cases n <;> simp only [uponV] at h <;> simp only [Oper.upon]
  case value u => exact hK _ _ h.1 h.2
  case enter f args =>
   refine Calls.mono h fun e w'' ⟨v,he,hp,hw⟩ => ?_
   subst he
   exact hK _ _ hp hw
 | halt x w' => simp only [uponV] at h
variable (l : List Oper) (pl : List Pl) (a0 : Act) (w0 : World)
def FPl (k : Nat) : Prop:=∃ i t zs c,i < l.length ∧ spA pl i = .old k t zs c
def RPl (i : Nat) (vs : Nat → Value) (W : World) : Prop:=match spA pl i with
 | .fix v => vs i = v
 | .var p => p (vs i :: (dsA pl i).map vs) W
 | .new _ _ => ∃ g,vs i = ptrTo g
 | _ => True
def TgPl (t : TypeId) (zs : Array Value) : Prop:=(∃ i,spA pl i = .new t zs) ∨ ∃ i k c,spA pl i = .old k t zs c
def ObPl (P : Program) (i : Nat) (o : Oper) : Prop:=match spA pl i with
 | .fix v => ∀ vs W,Chg (FPl l pl) w0 W → (∀ m ∈ dsA pl i,RPl pl m vs W) → Made P o v (putF l 0 vs a0) W
 | .var p => (∀ vs W,Chg (FPl l pl) w0 W → (∀ m ∈ dsA pl i,RPl pl m vs W) → MadeV P o (putF l 0 vs a0) W fun v W' => p (v :: (dsA pl i).map vs) W') ∧
  (∀ L W W',p L W → Ext W W' → p L W') ∧ (∀ L W k zs t c,p L W → W.heap[k]? = some (.cells zs t (0,0)) → TgPl pl t zs → p L (W.setRow k c))
 | .new t zs => ∃ ty,o.op = .alloc ty ∧ ∀ W,(Instr.alloc ty true (.tuple #[])).run P W = .ok (ptrTo W.heap.size) (W.alloc (.cells zs t))
 | .old k t zs c => o.dst = none ∧ w0.heap[k]? = some (.cells zs t (0,0)) ∧ ∃ ty x y,o.op = .store ty x y ∧ ∀ vs W,(∀ m ∈ dsA pl i,RPl pl m vs W) →
  (putF l 0 vs a0).eval x = ptrTo k ∧ (putF l 0 vs a0).eval y = .agg (c ((dsA pl i).map vs)) ∧ (P.info? ty).map (·.size) = some (c ((dsA pl i).map vs)).size ∧ zs.size = (c ((dsA pl i).map vs)).size ∧ (c ((dsA pl i).map vs)).all (·.oneCell') = true
 | .sto j c => o.dst = none ∧ j ∈ dsA pl i ∧ ∃ t zs,spA pl j = .new t zs ∧ ∃ ty x y,o.op = .store ty x y ∧ ∀ vs W,(∀ m ∈ dsA pl i,RPl pl m vs W) →
  (putF l 0 vs a0).eval x = vs j ∧ (putF l 0 vs a0).eval y = .agg (c ((dsA pl i).map vs)) ∧ (P.info? ty).map (·.size) = some (c ((dsA pl i).map vs)).size ∧ zs.size = (c ((dsA pl i).map vs)).size ∧ (c ((dsA pl i).map vs)).all (·.oneCell') = true
structure IPl (listed : Array Bool) (vs : Nat → Value) (W : World) : Prop where
 chg : Chg (FPl l pl) w0 W
 deps : ∀ i,i < l.length → listed.getD i false = true → ∀ m ∈ dsA pl i,listed.getD m false = true
 rel : ∀ i,i < l.length → listed.getD i false = true → RPl pl i vs W
 lo : ∀ i t zs,i < l.length → listed.getD i false = true → spA pl i = .new t zs → w0.heap.size ≤ blk (vs i) ∧ blk (vs i) < W.heap.size
 empty : ∀ i t zs,i < l.length → listed.getD i false = true → spA pl i = .new t zs → (∀ s c,s < l.length → spA pl s = .sto i c → listed.getD s false = false) → W.heap[blk (vs i)]? = some (.cells zs t (0,0))
 full : ∀ i t zs s c,i < l.length → listed.getD i false = true → spA pl i = .new t zs → s < l.length → spA pl s = .sto i c → listed.getD s false = true → W.heap[blk (vs i)]? = some (.cells (c ((dsA pl s).map vs)) t (0,0))
 sep : ∀ i j t zs t' zs',i < l.length → j < l.length → listed.getD i false = true → listed.getD j false = true → spA pl i = .new t zs → spA pl j = .new t' zs' → i ≠ j → blk (vs i) ≠ blk (vs j)
 todo : ∀ i k t zs c,i < l.length → spA pl i = .old k t zs c → listed.getD i false = false → W.heap[k]? = some (.cells zs t (0,0))
 done : ∀ i k t zs c,i < l.length → spA pl i = .old k t zs c → listed.getD i false = true → W.heap[k]? = some (.cells (c ((dsA pl i).map vs)) t (0,0))
end
section
variable {P : Program} {l : List Oper} {pl : List Pl} {a0 : Act} {w0 : World} {listed : Array Bool} {vs : Nat → Value} {W W' : World} {i : Nat}
def updV (vs : Nat → Value) (i : Nat) (v : Value) : Nat → Value:=fun m => if m = i then v else vs m
theorem zbr (vs : Nat → Value) (i : Nat) (v : Value) : updV vs i v i = v:=if_pos rfl
theorem zcd {vs : Nat → Value} {i m : Nat} {v : Value} (h : m ≠ i) : updV vs i v m = vs m:=if_neg h
theorem zgb {vs : Nat → Value} {i : Nat} {v : Value} {ds : List Nat} (h : i ∉ ds) : ds.map (updV vs i v) = ds.map vs:=List.map_congr_left fun _ hm => zcd fun e => h (e ▸ hm)
theorem zai (_ : listed.getD i false = false) {j : Nat} (hj : (listed.setIfInBounds i true).getD j false = true) (hne : j ≠ i) : listed.getD j false = true:=by rwa [getD_set_ne false fun e => hne e.symm] at hj
theorem zeu {j : Nat} (hj : (listed.setIfInBounds i true).getD j false = false) : listed.getD j false = false:=by
 cases h : listed.getD j false with
 | false => rfl
 | true => rw [getD_set_true h] at hj; cases hj
theorem IPl.notin (h : IPl l pl w0 listed vs W) (hun : listed.getD i false = false) {j : Nat} (hjl : j < l.length) (hj : listed.getD j false = true) : i ∉ dsA pl j:=fun hm => by
 have:=h.deps j hjl hj i hm
 rw [hun] at this
 cases this
theorem IPl.ext (h : IPl l pl w0 listed vs W) (k : Ext W W') (hst : ∀ j,j < l.length → listed.getD j false = true → RPl pl j vs W → RPl pl j vs W') : IPl l pl w0 listed vs W' where
 chg:=h.chg.ext k
 deps:=h.deps
 rel j hj hl:=hst j hj hl (h.rel j hj hl)
 lo j t zs hj hl hs:=by obtain ⟨h1,h2⟩:=h.lo j t zs hj hl hs; exact ⟨h1,Nat.lt_of_lt_of_le h2 (Below.size k)⟩
 empty j t zs hj hl hs hn:=k.block (h.empty j t zs hj hl hs hn)
 full j t zs s c hj hl hs hsl hsp hls:=k.block (h.full j t zs s c hj hl hs hsl hsp hls)
 sep:=h.sep
 todo j k' t zs c hj hs hl:=k.block (h.todo j k' t zs c hj hs hl)
 done j k' t zs c hj hs hl:=k.block (h.done j k' t zs c hj hs hl)
theorem IPl.put (h : IPl l pl w0 listed vs W) (hi : i < l.length) (hsz : i < listed.size) (hun : listed.getD i false = false) (hd : ∀ m ∈ dsA pl i,listed.getD m false = true) {v : Value} (hr : RPl pl i (updV vs i v) W)
  (hnew : ∀ t zs,spA pl i = .new t zs → w0.heap.size ≤ blk v ∧ blk v < W.heap.size ∧ W.heap[blk v]? = some (.cells zs t (0,0)) ∧ ∀ j t' zs',j < l.length → listed.getD j false = true → spA pl j = .new t' zs' → blk (vs j) ≠ blk v)
  (hso : ∀ k t zs c,spA pl i ≠ .old k t zs c) (hss : ∀ j c,spA pl i ≠ .sto j c) (hlate : ∀ s c,s < l.length → spA pl s = .sto i c → listed.getD s false = false) : IPl l pl w0 (listed.setIfInBounds i true) (updV vs i v) W:=by
 have hself : (listed.setIfInBounds i true).getD i false = true:=by simp [Array.getD,hsz]
 have ne : ∀ {j},listed.getD j false = true → j ≠ i:=fun {j} hj e => by subst e; rw [hun] at hj; cases hj
 have old : ∀ {j},j < l.length → listed.getD j false = true → RPl pl j vs W → RPl pl j (updV vs i v) W:=fun {j} hjl hj hrj => by
  unfold RPl at hrj ⊢
  rw [zcd (ne hj),zgb (h.notin hun hjl hj)]
  exact hrj
 refine ⟨h.chg,fun j hj hl m hm => ?_,fun j hj hl => ?_,fun j t zs hj hl hs => ?_,fun j t zs hj hl hs hn => ?_,fun j t zs s c hj hl hs hsl hsp hls => ?_,fun j j' t zs t' zs' hj hj' hl hl' hs hs' hne => ?_,fun j k t zs c hj hs hl => ?_,fun j k t zs c hj hs hl => ?_⟩
 ·
  by_cases e : j = i
  ·
   subst e; exact getD_set_true (hd m hm)
  ·
   exact getD_set_true (h.deps j hj (zai hun hl e) m hm)
 ·
  by_cases e : j = i
  ·
   subst e; exact hr
  ·
   exact old hj (zai hun hl e) (h.rel j hj (zai hun hl e))
 ·
  by_cases e : j = i
  ·
   subst e; rw [zbr]; exact ⟨(hnew t zs hs).1,(hnew t zs hs).2.1⟩
  ·
   rw [zcd e]; exact h.lo j t zs hj (zai hun hl e) hs
 ·
  by_cases e : j = i
  ·
   subst e; rw [zbr]; exact (hnew t zs hs).2.2.1
  ·
   rw [zcd e]; exact h.empty j t zs hj (zai hun hl e) hs fun s c hsl hsp => zeu (hn s c hsl hsp)
 ·
  have hsi : s ≠ i:=fun e => by subst e; exact hss _ _ hsp
  have hls':=zai hun hls hsi
  by_cases e : j = i
  ·
   subst e
   have:=hlate s c hsl hsp
   rw [hls'] at this
   cases this
  ·
   rw [zcd e,zgb (h.notin hun hsl hls')]
   exact h.full j t zs s c hj (zai hun hl e) hs hsl hsp hls'
 ·
  by_cases e : j = i
  ·
   subst e
   have hj2:=zai hun hl' fun e => hne e.symm
   rw [zbr,zcd fun e => hne e.symm]
   exact fun e => (hnew t zs hs).2.2.2 j' t' zs' hj' hj2 hs' e.symm
  ·
   by_cases e' : j' = i
   ·
    subst e'
    rw [zbr,zcd e]
    exact (hnew t' zs' hs').2.2.2 j t zs hj (zai hun hl e) hs
   ·
    rw [zcd e,zcd e']
    exact h.sep j j' t zs t' zs' hj hj' (zai hun hl e) (zai hun hl' e') hs hs' hne
 ·
  exact h.todo j k t zs c hj hs (zeu hl)
 ·
  have e : j ≠ i:=fun e => by subst e; exact hso _ _ _ _ hs
  rw [zgb (h.notin hun hj (zai hun hl e))]
  exact h.done j k t zs c hj hs (zai hun hl e)
theorem Chg.setRow_new {F : Nat → Prop} (h : Chg F w0 W) {k : Nat} (hk : w0.heap.size ≤ k) (c : Array Value) : Chg F w0 (W.setRow k c) :=
 ⟨h.os,h.tape,h.output,by simpa [World.setRow] using h.size,fun z hz hn => (zaj W c (show z ≠ k by omega)).trans (h.block z hz hn)⟩
theorem rowSize (W : World) (k : Nat) (c : Array Value) : (W.setRow k c).heap.size = W.heap.size:=by simp [World.setRow]
theorem IPl.old {k : Nat} {t : TypeId} {zs : Array Value} {c : List Value → Array Value} (h : IPl l pl w0 listed vs W) (hi : i < l.length) (hsz : i < listed.size) (hun : listed.getD i false = false) (hd : ∀ m ∈ dsA pl i,listed.getD m false = true) (hs : spA pl i = .old k t zs c) (hk : k < w0.heap.size)
  (hsep : ∀ j t' zs' c',j < l.length → spA pl j = .old k t' zs' c' → j = i)
  (hst : ∀ j,j < l.length → listed.getD j false = true → RPl pl j vs W → RPl pl j vs (W.setRow k (c ((dsA pl i).map vs)))) : IPl l pl w0 (listed.setIfInBounds i true) vs (W.setRow k (c ((dsA pl i).map vs))):=by
 have hself : (listed.setIfInBounds i true).getD i false = true:=by simp [Array.getD,hsz]
 have far : ∀ {g : Nat},w0.heap.size ≤ g → (W.setRow k (c ((dsA pl i).map vs))).heap[g]? = W.heap[g]?:=fun hg => zaj W _ (by omega)
 refine ⟨h.chg.setRow ⟨i,t,zs,c,hi,hs⟩ _,fun j hj hl m hm => ?_,fun j hj hl => ?_,fun j t' zs' hj hl hs' => ?_,fun j t' zs' hj hl hs' hn => ?_,fun j t' zs' s c' hj hl hs' hsl hsp hls => ?_,fun j j' t' zs' t2 zs2 hj hj' hl hl' hs' hs2 hne => ?_,fun j k' t' zs' c' hj hs' hl => ?_,fun j k' t' zs' c' hj hs' hl => ?_⟩
 ·
  by_cases e : j = i
  ·
   subst e; exact getD_set_true (hd m hm)
  ·
   exact getD_set_true (h.deps j hj (zai hun hl e) m hm)
 ·
  by_cases e : j = i
  ·
   subst e; unfold RPl; rw [hs]; trivial
  ·
   exact hst j hj (zai hun hl e) (h.rel j hj (zai hun hl e))
 ·
  have e : j ≠ i:=fun e => by subst e; rw [hs] at hs'; cases hs'
  rw [rowSize]
  exact h.lo j t' zs' hj (zai hun hl e) hs'
 ·
  have e : j ≠ i:=fun e => by subst e; rw [hs] at hs'; cases hs'
  rw [far (h.lo j t' zs' hj (zai hun hl e) hs').1]
  exact h.empty j t' zs' hj (zai hun hl e) hs' fun s c hsl hsp => zeu (hn s c hsl hsp)
 ·
  have e : j ≠ i:=fun e => by subst e; rw [hs] at hs'; cases hs'
  have e2 : s ≠ i:=fun e => by subst e; rw [hs] at hsp; cases hsp
  rw [far (h.lo j t' zs' hj (zai hun hl e) hs').1]
  exact h.full j t' zs' s c' hj (zai hun hl e) hs' hsl hsp (zai hun hls e2)
 ·
  have e : j ≠ i:=fun e => by subst e; rw [hs] at hs'; cases hs'
  have e2 : j' ≠ i:=fun e => by subst e; rw [hs] at hs2; cases hs2
  exact h.sep j j' t' zs' t2 zs2 hj hj' (zai hun hl e) (zai hun hl' e2) hs' hs2 hne
 ·
  have e : j ≠ i:=fun e => by subst e; rw [hself] at hl; cases hl
  have hkk : k' ≠ k:=fun ek => by subst ek; exact e (hsep j _ _ _ hj hs')
  exact (zaj W _ hkk).trans (h.todo j k' t' zs' c' hj hs' (zeu hl))
 ·
  by_cases e : j = i
  ·
   subst e
   rw [hs] at hs'
   injection hs' with e1 e2 e3 e4
   subst e1 e2 e3 e4
   exact setRow_heap W k zs _ t (0,0) (h.todo j k t zs c hj hs hun)
  ·
   have hkk : k' ≠ k:=fun ek => by subst ek; exact e (hsep j _ _ _ hj hs')
   exact (zaj W _ hkk).trans (h.done j k' t' zs' c' hj hs' (zai hun hl e))
theorem IPl.sto {j0 : Nat} {t : TypeId} {zs : Array Value} {c : List Value → Array Value} (hF : ∀ k,FPl l pl k → k < w0.heap.size) (h : IPl l pl w0 listed vs W) (hi : i < l.length) (hsz : i < listed.size) (hun : listed.getD i false = false) (hd : ∀ m ∈ dsA pl i,listed.getD m false = true) (hs : spA pl i = .sto j0 c) (hj0 : j0 < l.length) (hl0 : listed.getD j0 false = true) (hs0 : spA pl j0 = .new t zs)
  (huni : ∀ s c',s < l.length → spA pl s = .sto j0 c' → s = i)
  (hst : ∀ j,j < l.length → listed.getD j false = true → RPl pl j vs W → RPl pl j vs (W.setRow (blk (vs j0)) (c ((dsA pl i).map vs)))) : IPl l pl w0 (listed.setIfInBounds i true) vs (W.setRow (blk (vs j0)) (c ((dsA pl i).map vs))):=by
 have hself : (listed.setIfInBounds i true).getD i false = true:=by simp [Array.getD,hsz]
 have hb:=h.lo j0 t zs hj0 hl0 hs0
 have hem:=h.empty j0 t zs hj0 hl0 hs0 fun s c' hsl hsp => by rw [huni s c' hsl hsp]; exact hun
 have far : ∀ {g : Nat},g ≠ blk (vs j0) → (W.setRow (blk (vs j0)) (c ((dsA pl i).map vs))).heap[g]? = W.heap[g]?:=fun hg => zaj W _ hg
 have isnt : ∀ {j t' zs'},spA pl j = .new t' zs' → j ≠ i:=fun hs' e => by subst e; rw [hs] at hs'; cases hs'
 refine ⟨h.chg.setRow_new hb.1 _,fun j hj hl m hm => ?_,fun j hj hl => ?_,fun j t' zs' hj hl hs' => ?_,fun j t' zs' hj hl hs' hn => ?_,fun j t' zs' s c' hj hl hs' hsl hsp hls => ?_,fun j j' t' zs' t2 zs2 hj hj' hl hl' hs' hs2 hne => ?_,fun j k' t' zs' c' hj hs' hl => ?_,fun j k' t' zs' c' hj hs' hl => ?_⟩
 ·
  by_cases e : j = i
  ·
   subst e; exact getD_set_true (hd m hm)
  ·
   exact getD_set_true (h.deps j hj (zai hun hl e) m hm)
 ·
  by_cases e : j = i
  ·
   subst e; unfold RPl; rw [hs]; trivial
  ·
   exact hst j hj (zai hun hl e) (h.rel j hj (zai hun hl e))
 ·
  rw [rowSize]
  exact h.lo j t' zs' hj (zai hun hl (isnt hs')) hs'
 ·
  have hne : j ≠ j0:=fun e => by
   subst e
   have:=hn i c hi hs
   rw [hself] at this
   cases this
  rw [far (h.sep j j0 t' zs' t zs hj hj0 (zai hun hl (isnt hs')) hl0 hs' hs0 hne)]
  exact h.empty j t' zs' hj (zai hun hl (isnt hs')) hs' fun s c hsl hsp => zeu (hn s c hsl hsp)
 ·
  by_cases e : j = j0
  ·
   subst e
   have e2:=huni s c' hsl hsp
   subst e2
   rw [hs] at hsp
   injection hsp with _ e3
   subst e3
   rw [hs0] at hs'
   injection hs' with e4 e5
   subst e4 e5
   exact setRow_heap W _ zs _ t (0,0) hem
  ·
   have e2 : s ≠ i:=fun e2 => by
    subst e2
    rw [hs] at hsp
    injection hsp with e3 _
    exact e e3.symm
   rw [far (h.sep j j0 t' zs' t zs hj hj0 (zai hun hl (isnt hs')) hl0 hs' hs0 e)]
   exact h.full j t' zs' s c' hj (zai hun hl (isnt hs')) hs' hsl hsp (zai hun hls e2)
 ·
  exact h.sep j j' t' zs' t2 zs2 hj hj' (zai hun hl (isnt hs')) (zai hun hl' (isnt hs2)) hs' hs2 hne
 ·
  have hk:=hF k' ⟨j,t',zs',c',hj,hs'⟩
  rw [far (by omega)]
  exact h.todo j k' t' zs' c' hj hs' (zeu hl)
 ·
  have hk:=hF k' ⟨j,t',zs',c',hj,hs'⟩
  have e : j ≠ i:=fun e => by subst e; rw [hs] at hs'; cases hs'
  rw [far (by omega)]
  exact h.done j k' t' zs' c' hj hs' (zai hun hl e)
theorem ASt.upd {a : Act} {o : Oper} {v : Value} (hB : dstB a0.tmps.size l = true) (h : ASt l (putF l 0 vs a0) listed a) (hi : l[i]? = some o) (_ : listed.getD i false = false) : ASt l (putF l 0 (updV vs i v) a0) (listed.setIfInBounds i true) (a.put o.dst v):=by
 refine ⟨by rw [put_defers,h.1,zdd,zdd],by rw [zdm,h.2.1,zcs,zcs],fun t ht => ?_⟩
 by_cases ho : o.dst = some t
 ·
  have h2:=putF_at l 0 (updV vs i v) a0 hB hi ho
  rw [Nat.zero_add,zbr] at h2
  have h3 : t < a.tmps.size:=by
   have:=(Array.getElem?_eq_some_iff.1 h2).1
   rw [zcs] at this
   rw [h.2.1,zcs]
   exact this
  rw [h2,ho,zds,if_pos ⟨rfl,h3⟩]
 ·
  have hw : ∀ j oj,l[j]? = some oj → oj.dst = some t → j ≠ i:=fun j oj hj hd e => by
   subst e
   obtain rfl : o = oj:=Option.some.inj (hi.symm.trans hj)
   exact ho hd
  have h1:=h.2.2 t fun j oj hj hd => by
   have:=ht j oj hj hd
   rwa [getD_set_ne false fun e => hw j oj hj hd e.symm] at this
  have h2 : (a.put o.dst v).tmps[t]? = a.tmps[t]?:=by
   cases hd : o.dst with
   | none => rfl
   | some d => rw [zds,if_neg fun e => ho (by rw [hd,e.1])]
  rw [h2,h1]
  exact putF_congr l 0 vs (updV vs i v) a0 a0 rfl rfl fun j oj hj hd => by rw [Nat.zero_add,zcd (hw j oj hj hd)]
end
section
variable {P : Program} {Q : Exit → Act → World → Prop} {l : List Oper} {pl : List Pl} {a0 : Act} {w0 : World}
theorem fre_any (hm : Region.noSelect l.toArray = true) (hlow : lowSt l.toArray = true) (hK : knowB l.toArray = true) (hB : dstB a0.tmps.size l = true) (hdep : depB l pl = true)
  (hsep : ∀ i j k t zs c t' zs' c',i < l.length → j < l.length → spA pl i = .old k t zs c → spA pl j = .old k t' zs' c' → i = j) (huni : ∀ i i' j c c',i < l.length → i' < l.length → spA pl i = .sto j c → spA pl i' = .sto j c' → i = i')
  (hob : ∀ i o,l[i]? = some o → ObPl l pl a0 w0 P i o) (hQ : ∀ vs W,IPl l pl w0 (Array.replicate l.length true) vs W → Q .normal (putF l 0 vs a0) W) :
  ∀ (f : Nat) (listed : Array Bool) (a : Act) (w : World),listed.size = l.length → unl listed l.length ≤ f → (∃ vs,ASt l (putF l 0 vs a0) listed a ∧ IPl l pl w0 listed vs w) → wpAny P .any l.toArray Q f listed a w:=by
 have hF : ∀ k,FPl l pl k → k < w0.heap.size:=fun k ⟨i,t,zs,c,hi,hs⟩ => by
  have h:=hob i _ (List.getElem?_eq_getElem hi)
  unfold ObPl at h
  rw [hs] at h
  exact (Array.getElem?_eq_some_iff.1 h.2.1).1
 have fin : ∀ (listed : Array Bool) (a : Act) (w : World),listed.size = l.length → (∀ i,i < l.length → listed.getD i false = true) → (∃ vs,ASt l (putF l 0 vs a0) listed a ∧ IPl l pl w0 listed vs w) → Q .normal a w:=fun listed a w hsz hall ⟨vs,hA,hI⟩ => by
  have e : a = putF l 0 vs a0:=by
   obtain ⟨t1,d1⟩:=a
   have e1 : d1 = (putF l 0 vs a0).defers:=hA.1
   have e2 : t1 = (putF l 0 vs a0).tmps:=Array.ext_getElem? fun t => hA.2.2 t fun j o hj _ => hall j (List.getElem?_eq_some_iff.1 hj).1
   rw [e1,e2]
  have e3 : listed = Array.replicate l.length true:=by
   apply Array.ext_getElem?
   intro i
   by_cases hi : i < l.length
   ·
    have:=hall i hi
    rw [Array.getD_eq_getD_getElem?] at this
    rw [Array.getElem?_replicate,if_pos hi]
    rw [Array.getElem?_eq_getElem (by omega)] at this ⊢
    simpa using this
   ·
    rw [Array.getElem?_eq_none (by omega),Array.getElem?_eq_none (by simp; omega)]
  rw [e]
  exact hQ vs w (by rw [← e3]; exact hI)
 intro f
 induction f with
 | zero =>
  intro listed a w hsz hu hI
  have hall:=unl_zero (Nat.le_zero.1 hu)
  refine ⟨?_,fin listed a w hsz hall hI⟩
  cases hr : Region.ready .any l.toArray listed with
  | nil => rfl
  | cons i r =>
   exfalso
   have h1 : i ∈ Region.ready .any l.toArray listed:=by rw [hr]; exact List.mem_cons_self
   obtain ⟨h2,o,ho,_⟩:=mem_ready.1 h1
   have h3 : i < l.length:=by simpa using (Array.getElem?_eq_some_iff.1 ho).1
   have h5:=getD_both h2
   rw [hall i h3] at h5
   cases h5
 | succ f ih =>
  intro listed a w hsz hu hI
  refine ⟨fun hr => fin listed a w hsz (fun i hi => all_listed hlow (by simpa using hsz) hr i (by simpa using hi)) hI,fun i hi => ?_⟩
  obtain ⟨h2,o,ho,hafter⟩:=mem_ready.1 hi
  have hun:=getD_both h2
  have h3 : i < l.length:=by simpa using (Array.getElem?_eq_some_iff.1 ho).1
  have h3s : i < listed.size:=by omega
  have hil : l[i]? = some o:=by simpa using ho
  obtain ⟨vs,hA,hP⟩:=hI
  have hg : o.guard = none:=by
   have h4:=List.all_eq_true.1 hK i (List.mem_range.2 (by simpa using h3))
   rw [ho] at h4
   simp only [Bool.and_eq_true] at h4
   simpa using h4.1
  have hd : ∀ m ∈ dsA pl i,listed.getD m false = true:=fun m hm' => by
   have h4:=List.all_eq_true.1 hdep i (List.mem_range.2 h3)
   rw [hil] at h4
   obtain ⟨e,he,h5⟩:=List.any_eq_true.1 (List.all_eq_true.1 h4 m hm')
   simp only [Bool.and_eq_true,Bool.or_eq_true,beq_iff_eq,List.contains_iff_mem] at h5
   have h6:=hafter e (Array.mem_toList_iff.1 he) h5.1
   rcases h5.2 with h7 | h7
   ·
    rwa [h7] at h6
   ·
    have h8 : e.on < l.length:=by
     have h9:=List.all_eq_true.1 hlow i (List.mem_range.2 (by simpa using h3))
     rw [ho] at h9
     have h10:=List.all_eq_true.1 h9 e he
     rw [h5.1,Bool.not_true,Bool.false_or] at h10
     have:=of_decide_eq_true h10
     omega
    exact hP.deps e.on h8 h6 m h7
  have he : execOp a.eval o = execOp (putF l 0 vs a0).eval o:=execOp_congr o (fun cs b => Region.noSelect_spec hm i o cs b ho) (hA.eval hK hil hi)
  have hmi : ∀ m ∈ dsA pl i,m < l.length:=fun m hm' => by
   have:=hd m hm'
   rw [Array.getD_eq_getD_getElem?] at this
   rcases Nat.lt_or_ge m l.length with h | h
   ·
    exact h
   ·
    rw [Array.getElem?_eq_none (by omega)] at this; cases this
  have hRd : ∀ m ∈ dsA pl i,RPl pl m vs w:=fun m hm' => hP.rel m (hmi m hm') (hd m hm')
  have stE : ∀ W W',Ext W W' → ∀ j,j < l.length → RPl pl j vs W → RPl pl j vs W':=fun W W' k j hj hr => by
   have hj':=hob j _ (List.getElem?_eq_getElem hj)
   unfold ObPl at hj'
   unfold RPl at hr ⊢
   cases hs : spA pl j with
   | var p => rw [hs] at hj' hr; exact hj'.2.1 _ W W' hr k
   | fix v => rw [hs] at hr; exact hr
   | new t zs => rw [hs] at hr; exact hr
   | old k t zs c => trivial
   | sto j c => trivial
  have stS : ∀ W k zs t c,W.heap[k]? = some (.cells zs t (0,0)) → TgPl pl t zs → ∀ j,j < l.length → RPl pl j vs W → RPl pl j vs (W.setRow k c):=fun W k zs t c hb hT j hj hr => by
   have hj':=hob j _ (List.getElem?_eq_getElem hj)
   unfold ObPl at hj'
   unfold RPl at hr ⊢
   cases hs : spA pl j with
   | var p => rw [hs] at hj' hr; exact hj'.2.2 _ W k zs t c hr hb hT
   | fix v => rw [hs] at hr; exact hr
   | new t zs => rw [hs] at hr; exact hr
   | old k t zs c => trivial
   | sto j c => trivial
  have hk:=hob i o hil
  have hcount : unl (listed.setIfInBounds i true) l.length ≤ f:=by have:=unl_set hun h3s h3; omega
  refine zbp ho hg ?_
  unfold ObPl at hk
  cases hs : spA pl i with
  | fix v =>
   rw [hs] at hk
   have hmd : Made P o v a w:=by
    have h5:=hk vs w hP.chg hRd
    unfold Made at h5 ⊢
    rw [he]
    exact h5
   refine Made.wp hmd (Ext.refl w) fun W' hW' => ih _ _ _ (by simpa using hsz) hcount ⟨updV vs i v,hA.upd hB hil hun,?_⟩
   refine (hP.ext hW' fun j hj _ hr => stE _ _ hW' j hj hr).put h3 h3s hun hd ?_ (fun t zs h => by rw [hs] at h; cases h) (fun k t zs c h => by rw [hs] at h; cases h) (fun j c h => by rw [hs] at h; cases h) (fun s c hsl hsp => ?_)
   ·
    unfold RPl; rw [hs]; exact zbr _ _ _
   ·
    exfalso
    have h6:=hob s _ (List.getElem?_eq_getElem hsl)
    unfold ObPl at h6
    rw [hsp] at h6
    obtain ⟨_,_,t,zs,h7,_⟩:=h6
    rw [hs] at h7
    cases h7
  | var p =>
   rw [hs] at hk
   have hmd : MadeV P o a w fun v W' => p (v :: (dsA pl i).map vs) W':=by
    have h5:=hk.1 vs w hP.chg hRd
    unfold MadeV at h5 ⊢
    rw [he]
    exact h5
   have hni : i ∉ dsA pl i:=fun h => by have:=hd i h; rw [hun] at this; cases this
   refine MadeV.wp hmd fun v W' hp hW' => ih _ _ _ (by simpa using hsz) hcount ⟨updV vs i v,hA.upd hB hil hun,?_⟩
   refine (hP.ext hW' fun j hj _ hr => stE _ _ hW' j hj hr).put h3 h3s hun hd ?_ (fun t zs h => by rw [hs] at h; cases h) (fun k t zs c h => by rw [hs] at h; cases h) (fun j c h => by rw [hs] at h; cases h) (fun s c hsl hsp => ?_)
   ·
    unfold RPl; rw [hs]
    show p (updV vs i v i :: (dsA pl i).map (updV vs i v)) W'
    rw [zbr,zgb hni]
    exact hp
   ·
    exfalso
    have h6:=hob s _ (List.getElem?_eq_getElem hsl)
    unfold ObPl at h6
    rw [hsp] at h6
    obtain ⟨_,_,t,zs,h7,_⟩:=h6
    rw [hs] at h7
    cases h7
  | new t zs =>
   rw [hs] at hk
   obtain ⟨ty,hop,hz⟩:=hk
   refine zfa hop hz (ih _ _ _ (by simpa using hsz) hcount ⟨updV vs i (ptrTo w.heap.size),hA.upd hB hil hun,?_⟩)
   have hW':=Ext.alloc w (.cells zs t)
   refine (hP.ext hW' fun j hj _ hr => stE _ _ hW' j hj hr).put h3 h3s hun hd ?_ (fun t' zs' h => ?_) (fun k t zs c h => by rw [hs] at h; cases h) (fun j c h => by rw [hs] at h; cases h) (fun s c hsl hsp => ?_)
   ·
    unfold RPl; rw [hs]; exact ⟨_,zbr _ _ _⟩
   ·
    rw [hs] at h
    injection h with e1 e2
    subst e1 e2
    refine ⟨hP.chg.size,?_,zae w _,fun j t' zs' hj hl hs' => ?_⟩
    ·
     show w.heap.size < (w.alloc _).heap.size
     rw [World.size_alloc]
     exact Nat.lt_succ_self _
    ·
     have:=(hP.lo j t' zs' hj hl hs').2
     show blk (vs j) ≠ w.heap.size
     omega
   ·
    cases hls : listed.getD s false with
    | false => rfl
    | true =>
     have h6:=hob s _ (List.getElem?_eq_getElem hsl)
     unfold ObPl at h6
     rw [hsp] at h6
     have h7:=hP.deps s hsl hls i h6.2.1
     rw [hun] at h7
     cases h7
  | old k t zs c =>
   rw [hs] at hk
   obtain ⟨hdst,hb0,ty,x,y,hop,hxy⟩:=hk
   obtain ⟨hx,hy,hinf,hsz2,hone⟩:=hxy vs w hRd
   have hxa:=hA.eval hK hil hi x (by rw [hop]; simp [Op.operands])
   have hya:=hA.eval hK hil hi y (by rw [hop]; simp [Op.operands])
   have hb:=hP.todo i k t zs c h3 hs hun
   refine wp_store_row ty x y hop k _ (hxa.trans hx) (hya.trans hy) t zs hb hinf hsz2 hone (ih _ _ _ (by simpa using hsz) hcount ⟨vs,hA.put hil (fun d hd' => by rw [hdst] at hd'; cases hd'),?_⟩)
   exact hP.old h3 h3s hun hd hs (Array.getElem?_eq_some_iff.1 hb0).1 (fun j t' zs' c' hj hs' => hsep j i k t' zs' c' t zs c hj h3 hs' hs) fun j hj _ hr => stS w k zs t _ hb (.inr ⟨i,k,c,hs⟩) j hj hr
  | sto j0 c =>
   rw [hs] at hk
   obtain ⟨hdst,hj0,t,zs,hs0,ty,x,y,hop,hxy⟩:=hk
   obtain ⟨hx,hy,hinf,hsz2,hone⟩:=hxy vs w hRd
   have hxa:=hA.eval hK hil hi x (by rw [hop]; simp [Op.operands])
   have hya:=hA.eval hK hil hi y (by rw [hop]; simp [Op.operands])
   have hl0:=hd j0 hj0
   have hj0l:=hmi j0 hj0
   have hb:=hP.empty j0 t zs hj0l hl0 hs0 fun s c' hsl hsp => by rw [huni s i j0 c' c hsl h3 hsp hs]; exact hun
   have hr0:=hP.rel j0 hj0l hl0
   unfold RPl at hr0
   rw [hs0] at hr0
   obtain ⟨g,hg0⟩:=hr0
   have hbg : blk (vs j0) = g:=by rw [hg0]; rfl
   rw [hbg] at hb
   refine wp_store_row ty x y hop g _ (hxa.trans (hx.trans hg0)) (hya.trans hy) t zs hb hinf hsz2 hone (ih _ _ _ (by simpa using hsz) hcount ⟨vs,hA.put hil (fun d hd' => by rw [hdst] at hd'; cases hd'),?_⟩)
   have h9:=hP.sto hF h3 h3s hun hd hs hj0l hl0 hs0 (fun s c' hsl hsp => huni s i j0 c' c hsl h3 hsp hs) fun j hj _ hr => by
    rw [hbg]
    exact stS w g zs t _ hb (.inl ⟨j0,hs0⟩) j hj hr
   rwa [hbg] at h9
theorem wp_free {id : Nat} (pl : List Pl) (hm : P.follows .mixedOrders = true) (hB : freB a0.tmps.size l pl = true)
  (hsep : ∀ i j k t zs c t' zs' c',i < l.length → j < l.length → spA pl i = .old k t zs c → spA pl j = .old k t' zs' c' → i = j) (huni : ∀ i i' j c c',i < l.length → i' < l.length → spA pl i = .sto j c → spA pl i' = .sto j c' → i = i')
  (hob : ∀ i o,l[i]? = some o → ObPl l pl a0 w0 P i o) (hQ : ∀ vs W,IPl l pl w0 (Array.replicate l.length true) vs W → Q .normal (putF l 0 vs a0) W) : (Code.region id l.toArray true).wp P Q a0 w0:=by
 unfold freB at hB
 simp only [Bool.and_eq_true] at hB
 obtain ⟨⟨⟨⟨hsel,hlow⟩,hK⟩,hdst⟩,hdep⟩:=hB
 refine wp_region_any hm ?_
 have h:=fre_any (Q:=Q) (pl:=pl) hsel hlow hK hdst hdep hsep huni hob hQ l.length (Array.replicate l.length false) a0 w0.drew (by simp) (by rw [unl_new]; exact Nat.le_refl _)
  ⟨fun _ => undef,⟨(zdd l 0 _ a0).symm,(zcs l 0 _ a0).symm,fun t ht => (zfz l 0 _ a0 fun hd => by
   obtain ⟨j,o,hj,hd⟩:=mem_dsts l hd
   have h1:=ht j o hj hd
   rw [getD_replicate_false] at h1
   cases h1).symm⟩,
   {chg:=(Chg.refl _ _).drew
    deps:=fun i _ hl => (by rw [getD_replicate_false] at hl; cases hl)
    rel:=fun i _ hl => (by rw [getD_replicate_false] at hl; cases hl)
    lo:=fun i _ _ _ hl => (by rw [getD_replicate_false] at hl; cases hl)
    empty:=fun i _ _ _ hl => (by rw [getD_replicate_false] at hl; cases hl)
    full:=fun i _ _ _ _ _ hl => (by rw [getD_replicate_false] at hl; cases hl)
    sep:=fun i _ _ _ _ _ _ _ hl => (by rw [getD_replicate_false] at hl; cases hl)
    todo:=fun i k t zs c hi hs _ => by
     have h1:=hob i _ (List.getElem?_eq_getElem hi)
     unfold ObPl at h1
     rw [hs] at h1
     exact h1.2.1
    done:=fun i _ _ _ _ _ _ hl => (by rw [getD_replicate_false] at hl; cases hl) }⟩
 simpa using h
/-! ### how its parts are given -/
def ObL (l : List Oper) (pl : List Pl) (a0 : Act) (w0 : World) (P : Program) : Nat → List Oper → Prop
 | _,[] => True
 | k,o :: r => ObPl l pl a0 w0 P k o ∧ ObL l pl a0 w0 P (k + 1) r
theorem obL_get : ∀ {r : List Oper} {k : Nat},ObL l pl a0 w0 P k r → ∀ i o,r[i]? = some o → ObPl l pl a0 w0 P (k + i) o
 | [],_,_,_,_,h => by simp at h
 | o' :: r,k,h,0,o,hi => by
  obtain rfl : o' = o:=by simpa using hi
  exact h.1
 | o' :: r,k,h,i + 1,o,hi => by
  have:=obL_get h.2 i o (by simpa using hi)
  rwa [show k + 1 + i = k + (i + 1) by omega] at this
def oldL (pl : List Pl) : List (Option Nat):=pl.map fun p => match p.sp with
 | .old k _ _ _ => some k
 | _ => none
def stoL (pl : List Pl) : List (Option Nat):=pl.map fun p => match p.sp with
 | .sto j _ => some j
 | _ => none
def apartL (L : List (Option Nat)) : Prop:=L.Pairwise fun x y => ∀ k,x = some k → y ≠ some k
theorem oldL_at {i k : Nat} {t : TypeId} {zs : Array Value} {c : List Value → Array Value} (h : spA pl i = .old k t zs c) : (oldL pl)[i]? = some (some k):=by
 unfold oldL
 rw [List.getElem?_map]
 unfold spA at h
 rw [List.getD_eq_getElem?_getD] at h
 cases hp : pl[i]? with
 | none => rw [hp] at h; cases h
 | some p =>
  rw [hp] at h
  have h' : p.sp = .old k t zs c:=h
  simp only [Option.map_some,h']
theorem stoL_at {i j : Nat} {c : List Value → Array Value} (h : spA pl i = .sto j c) : (stoL pl)[i]? = some (some j):=by
 unfold stoL
 rw [List.getElem?_map]
 unfold spA at h
 rw [List.getD_eq_getElem?_getD] at h
 cases hp : pl[i]? with
 | none => rw [hp] at h; cases h
 | some p =>
  rw [hp] at h
  have h' : p.sp = .sto j c:=h
  simp only [Option.map_some,h']
theorem apartL_one {L : List (Option Nat)} (h : apartL L) {i j k : Nat} (hi : L[i]? = some (some k)) (hj : L[j]? = some (some k)) : i = j:=by
 unfold apartL at h
 rw [List.pairwise_iff_getElem] at h
 obtain ⟨hil,hi⟩:=List.getElem?_eq_some_iff.1 hi
 obtain ⟨hjl,hj⟩:=List.getElem?_eq_some_iff.1 hj
 rcases Nat.lt_trichotomy i j with c | c | c
 ·
  exact absurd hj (h i j hil hjl c k hi)
 ·
  exact c
 ·
  exact absurd hi (h j i hjl hil c k hj)
theorem wp_fre {id : Nat} (pl : List Pl) (hm : P.follows .mixedOrders = true) (hB : freB a0.tmps.size l pl = true) (hO : apartL (oldL pl)) (hS : apartL (stoL pl)) (hob : ObL l pl a0 w0 P 0 l)
  (hQ : ∀ vs W,Hid (IPl l pl w0 (Array.replicate l.length true) vs W) → Q .normal (putF l 0 vs a0) W) : (Code.region id l.toArray true).wp P Q a0 w0 :=
 wp_free pl hm hB (fun _ _ _ _ _ _ _ _ _ _ _ hi hj => apartL_one hO (oldL_at hi) (oldL_at hj)) (fun _ _ _ _ _ _ _ hi hj => apartL_one hS (stoL_at hi) (stoL_at hj))
  (fun i o hi => by have:=obL_get hob i o hi; rwa [Nat.zero_add] at this) fun vs W h => hQ vs W (veil h)
theorem ev_at {vs : Nat → Value} {i d : Nat} {o : Oper} (hB : dstB a0.tmps.size l = true) (hi : l[i]? = some o) (hd : o.dst = some d) : (putF l 0 vs a0).eval (.tmp d) = vs i:=by
 have h:=putF_at l 0 vs a0 hB hi hd
 rw [Nat.zero_add] at h
 show (putF l 0 vs a0).tmps.getD d undef = _
 rw [Array.getD_eq_getD_getElem?,h]
 rfl
theorem ev_far {vs : Nat → Value} {d : Nat} (h : (dstsB l).contains d = false) : (putF l 0 vs a0).eval (.tmp d) = a0.eval (.tmp d):=by
 have h2:=zfz l 0 vs a0 (t:=d) fun hh => by
  have : (dstsB l).contains d = true:=by simpa using hh
  rw [h] at this; cases this
 show (putF l 0 vs a0).tmps.getD d undef = a0.tmps.getD d undef
 rw [Array.getD_eq_getD_getElem?,Array.getD_eq_getD_getElem?,h2]
theorem zef {n i : Nat} (h : i < n) : (Array.replicate n true).getD i false = true:=by
 rw [Array.getD_eq_getD_getElem?,Array.getElem?_replicate,if_pos h]
 rfl
section
variable {vs : Nat → Value} {W : World}
theorem IPl.R (h : IPl l pl w0 (Array.replicate l.length true) vs W) (i : Nat) (hi : i < l.length) : RPl pl i vs W:=h.rel i hi (zef hi)
theorem IPl.F (h : IPl l pl w0 (Array.replicate l.length true) vs W) {i s : Nat} {t : TypeId} {zs : Array Value} {c : List Value → Array Value} (hi : i < l.length) (hs : s < l.length) (h1 : spA pl i = .new t zs) (h2 : spA pl s = .sto i c) : ∃ g,vs i = ptrTo g ∧ w0.heap.size ≤ g ∧ g < W.heap.size ∧ W.heap[g]? = some (.cells (c ((dsA pl s).map vs)) t (0,0)):=by
 have hr:=h.R i hi
 unfold RPl at hr
 rw [h1] at hr
 obtain ⟨g,hg⟩:=hr
 have hb : blk (vs i) = g:=by rw [hg]; rfl
 have h3:=h.lo i t zs hi (zef hi) h1
 have h4:=h.full i t zs s c hi (zef hi) h1 hs h2 (zef hs)
 rw [hb] at h3 h4
 exact ⟨g,hg,h3.1,h3.2,h4⟩
theorem IPl.O (h : IPl l pl w0 (Array.replicate l.length true) vs W) {i k : Nat} {t : TypeId} {zs : Array Value} {c : List Value → Array Value} (hi : i < l.length) (h1 : spA pl i = .old k t zs c) : W.heap[k]? = some (.cells (c ((dsA pl i).map vs)) t (0,0)):=h.done i k t zs c hi h1 (zef hi)
end
end
section
variable {P : Program} {o : Oper} {a : Act} {w : World}
theorem made_row {ty : TypeId} {x : Operand} {g t : Nat} {C : Array Value} {fr : Nat × Nat} {d : TypeDesc} (ho : o.op = .load ty x) (hx : a.eval x = ptrTo g) (hb : w.heap[g]? = some (.cells C t fr)) (hu : P.underlying ty = some d) (hd : d.isRow = true) (hi : (P.info? ty).map (·.size) = some C.size) : Made P o (.agg C) a w :=
 zba fun _ hW => run_load_v ho hx (hW.block hb) hu hd hi
theorem made_cell {ty : TypeId} {x : Operand} {p : Addr} {v : Value} (ho : o.op = .load ty x) (hx : a.eval x = .pointer (some p)) (hb : w.cell? p = some v) (hp : p.block < w.heap.size) (hn : ∀ W,(isAgg ty).run P W = .ok false W) : Made P o v a w:=zba fun W hW => by
 have hr : W.cell? p = some v:=(Below.cell hW (p:=p) hp).trans hb
 have hl : (load p).run P W = .ok v W:=by simp [go_sem,hr]
 unfold execOp
 simp only [ho,hx,Instr.loadAt,Instr.sureAddr,Sem.run_bind,Sem.run_pure,Result.andThen_ok,loadVar,hn,Bool.false_eq_true,if_false,hl]
theorem map1 {a : Act} {x : Operand} {v : Value} (h : a.eval x = v) : [x].map a.eval = [v]:=by rw [List.map_cons,h]; rfl
end
def NewB (n : Nat) (A : Option Addr) (bs : List Nat) : Prop:=bs.length = 0 ∨ ∀ b o,A = some ⟨b,o,none⟩ → n ≤ b
def FlN (n : Nat) (w : World) (v : Value) (fs : List Fd) : Prop:=BytF fs ∧ ∃ AL c,v = .slice AL fs.length c ∧ fs.length ≤ c ∧ (fs.length = 0 ∨ ∃ b o,AL = some ⟨b,o,none⟩ ∧ b < w.heap.size ∧
 ∀ i,i < fs.length → w.cell? ⟨b,o + i * 2,none⟩ = some (.int .i64 (tgF fs i)) ∧ ∃ A c',w.cell? ⟨b,o + i * 2 + 1,none⟩ = some (.slice A (bsF fs i).length c') ∧ (bsF fs i).length ≤ c' ∧ Bs w A (bsF fs i) ∧ NewB n A (bsF fs i))
theorem FlN.fl {n : Nat} {w : World} {v : Value} {fs : List Fd} (h : FlN n w v fs) : Fl w v fs:=by
 obtain ⟨hB,AL,c,e,hc,h⟩:=h
 refine ⟨hB,AL,c,e,hc,h.imp id ?_⟩
 rintro ⟨b,o,e,hb,hx⟩
 refine ⟨b,o,e,hb,fun i hi => ?_⟩
 obtain ⟨h1,A,c',h2,h3,h4,_⟩:=hx i hi
 exact ⟨h1,A,c',h2,h3,h4⟩
theorem FlN.ext {n : Nat} {w w' : World} {v : Value} {fs : List Fd} (h : FlN n w v fs) (k : Ext w w') : FlN n w' v fs:=by
 obtain ⟨hB,AL,c,rfl,hc,h⟩:=h
 refine ⟨hB,AL,c,rfl,hc,h.imp id ?_⟩
 rintro ⟨b,o,e,hb,hx⟩
 refine ⟨b,o,e,Nat.lt_of_lt_of_le hb k.size,fun i hi => ?_⟩
 obtain ⟨h1,A,c',h2,h3,h4,h5⟩:=hx i hi
 exact ⟨(k.cell hb).trans h1,A,c',(k.cell hb).trans h2,h3,h4.ext k,h5⟩
theorem NewB.chg {n : Nat} {A : Option Addr} {bs : List Nat} {F : Nat → Prop} {w w' : World} (h : NewB n A bs) (hb : Bs w A bs) (k : Chg F w w') (hF : ∀ z,F z → z < n) : Bs w' A bs:=by
 refine ⟨hb.1,?_⟩
 rcases h with h0 | h
 ·
  exact .inl h0
 ·
  refine hb.2.imp id ?_
  rintro ⟨b,o,e,hbl,hc⟩
  have hnb:=h b o e
  have hnf : ¬ F b:=fun hf => by have:=hF b hf; omega
  exact ⟨b,o,e,Nat.lt_of_lt_of_le hbl k.size,fun j hj => (k.cell (p:=⟨b,o + j,none⟩) hbl hnf).trans (hc j hj)⟩
def OwnFsN (w : World) (base : Nat) (v : Value) (fs : List Fd) : Prop:=BytF fs ∧ ∃ al : List (Option Addr × Nat),al.length = fs.length ∧ w.ownsRow base 71 2 v fs.length (cellsFs fs al) ∧
 ∀ i,i < fs.length → (bsF fs i).length ≤ (al.getD i (none,0)).2 ∧ Bs w (al.getD i (none,0)).1 (bsF fs i) ∧ Off (al.getD i (none,0)).1 (bsF fs i) v.ownBlock ∧ NewB base (al.getD i (none,0)).1 (bsF fs i)
theorem OwnFsN.nil (w : World) (base : Nat) : OwnFsN w base (.slice none 0 0) []:=⟨fun _ h => (by cases h),[],rfl,World.ownsRow_nil _ _ _ _,fun i hi => by simp at hi⟩
theorem OwnFsN.keep {w w' : World} {base : Nat} {v : Value} {fs : List Fd} (o : OwnFsN w base v fs) (h : Ext w w') : OwnFsN w' base v fs:=by
 obtain ⟨hB,al,hl,hr,hx⟩:=o
 refine ⟨hB,al,hl,⟨hr.1,?_⟩,fun i hi => ⟨(hx i hi).1,(hx i hi).2.1.ext h,(hx i hi).2.2⟩⟩
 rcases hr.2 with hn | ⟨g,cap,cur,rfl,hbg,hh,rest⟩
 ·
  exact .inl hn
 ·
  exact .inr ⟨g,cap,cur,rfl,hbg,h.block hh,rest⟩
theorem OwnFsN.lt {w : World} {base : Nat} {v : Value} {fs : List Fd} (o : OwnFsN w base v fs) {k : Nat} (hk : v.ownBlock = some k) : base ≤ k ∧ k < w.heap.size:=by
 obtain ⟨_,al,_,hr,_⟩:=o
 exact World.ownsRow.lt hr k hk
theorem OwnFsN.fln {w : World} {base : Nat} {v : Value} {fs : List Fd} (o : OwnFsN w base v fs) : FlN base w v fs:=by
 obtain ⟨hB,al,hl,hr,hx⟩:=o
 rcases hr.2 with ⟨rfl,h0⟩ | ⟨g,cap,cur,rfl,hbg,hh,hn,hm,hs,ht⟩
 ·
  exact ⟨hB,none,0,by rw [h0],by omega,.inl h0⟩
 ·
  refine ⟨hB,_,cap,rfl,hn,?_⟩
  by_cases h0 : fs.length = 0
  ·
   exact .inl h0
  ·
   refine .inr ⟨g,0,rfl,(Array.getElem?_eq_some_iff.1 hh).1,fun i hi => ?_⟩
   have hcell : ∀ k,k < fs.length * 2 → w.cell? ⟨g,k,none⟩ = (cellsFs fs al)[k]?:=fun k hk => by
    rw [cell_of_row w g k cur _ _ hh,← ht,List.getElem?_take_of_lt hk]
    simp
   obtain ⟨c0,c1⟩:=zfp hl hi
   refine ⟨by rw [Nat.zero_add,hcell _ (by omega)]; exact c0,_,_,by rw [Nat.zero_add,hcell _ (by omega)]; exact c1,(hx i hi).1,(hx i hi).2.1,(hx i hi).2.2.2⟩
theorem run_append_fdN {w : World} {base : Nat} {v : Value} {fs : List Fd} (ty : TypeId) (hown : OwnFsN w base v fs) (g : Nat) (f : Fd) (a : Option Addr × Nat) (c1 : Nat)
  (hg : w.heap[g]? = some (.cells #[.int .i64 f.1,.slice a.1 f.2.length a.2] 71 (0,0))) (hc : f.2.length ≤ a.2) (hb : Bs w a.1 f.2) (hne : Off a.1 f.2 v.ownBlock) (hN : NewB base a.1 f.2)
  (hn : fs.length ≤ 1000000000) (hbase : base ≤ w.heap.size) :
  ∃ v' w',(Builtin.append_ #[67,67] ty #[v,.slice (some ⟨g,0,none⟩) 1 c1]).run Tryd.prog w = .ok v' w' ∧ OwnFsN w' base v' (fs ++ [f]) ∧ w.grownBy w' v.ownBlock:=by
 obtain ⟨i,hi,hz,hsz,hby⟩:=zek infoF16
 obtain ⟨hB,al,hl,hr,hx⟩:=hown
 obtain ⟨v',w',hrun,h2,h3,_,h5⟩:=run_append_own_at (P:=Tryd.prog) w base 67 ty 71 i _ 2 32 Tryd.underlying67 hi hz hsz hby rfl (by decide) v fs.length (cellsFs fs al) hr ⟨g,0,none⟩ 1 c1 [.int .i64 f.1,.slice a.1 f.2.length a.2] rfl
  (fun j u hu => by
   rw [Addr.add_mid,Nat.zero_add,cell_of_row w g j _ _ _ hg]
   simpa using hu)
  (fun u hu => by
   simp only [List.mem_cons,List.not_mem_nil,or_false] at hu
   rcases hu with rfl | rfl <;> rfl) (by unfold maxLen; omega) (by omega) hbase
 refine ⟨v',w',hrun,⟨?_,al ++ [a],by simp [hl],?_,fun k hk => ?_⟩,h3⟩
 ·
  intro x hx'
  rcases List.mem_append.1 hx' with h | h
  ·
   exact hB x h
  ·
   rw [List.mem_singleton.1 h]; exact hb.1
 ·
  rw [zdc f a hl,List.length_append]
  exact h2
 ·
  have hout : ∀ (A : Option Addr) (bs : List Nat),Bs w A bs → Off A bs v.ownBlock → Off A bs v'.ownBlock:=by
   intro A bs hA hn1
   rcases hn1 with h0 | hn1
   ·
    exact .inl h0
   ·
    rcases hA.2 with h | ⟨b',o',e',hb',_⟩
    ·
     exact .inl h
    ·
     refine .inr fun b o e e2 => ?_
     rw [e] at e'
     injection e' with e'
     injection e' with e4
     rcases h5 with h5 | h5
     ·
      rw [h5] at e2; exact hn1 b o e e2
     ·
      rw [h5] at e2
      have e3 : w.heap.size = b:=by injection e2
      omega
  rw [List.length_append,List.length_singleton] at hk
  by_cases hlt : k < fs.length
  ·
   obtain ⟨e1,e2⟩:=tgF_lt (f:=f) hlt
   have e3 : (al ++ [a]).getD k (none,0) = al.getD k (none,0):=by
    simp only [List.getD_eq_getElem?_getD,List.getElem?_append_left (show k < al.length by omega)]
   obtain ⟨x1,x2,x3,x4⟩:=hx k hlt
   rw [e2,e3]
   exact ⟨x1,x2.but h3 x3,hout _ _ x2 x3,x4⟩
  ·
   obtain rfl : k = fs.length:=by omega
   obtain ⟨e1,e2⟩:=tgF_last fs f
   have e3 : (al ++ [a]).getD fs.length (none,0) = a:=by
    rw [← hl]
    simp
   rw [e2,e3]
   exact ⟨hc,hb.but h3 hne,hout _ _ hb hne,hN⟩
section
variable {Q : Exit → Act → World → Prop} {l : List Oper} {n k d : Nat} {r : Sched} {a : Act} {w : World}
theorem sched_append_fdN {s x : Operand} {base g c : Nat} {v : Value} {fs : List Fd} {f : Fd} {al : Option Addr × Nat} (o : Oper) (ho : l[k]? = some o) (hgd : o.guard = none) (hop : o.op = .call { callee:=.builtin .append,args:=#[s,x],argTypes:=#[67,67] }) (hd : o.dst = some d)
  (hs : a.eval s = v) (hx : a.eval x = .slice (some ⟨g,0,none⟩) 1 c) (hkn : ¬ k < n) (hown : OwnFsN w base v fs) (hg : w.heap[g]? = some (.cells #[.int .i64 f.1,.slice al.1 f.2.length al.2] 71 (0,0)))
  (hc : f.2.length ≤ al.2) (hb : Bs w al.1 f.2) (hne : Off al.1 f.2 v.ownBlock) (hN : NewB base al.1 f.2) (hn : fs.length ≤ 1000000000) (hbase : base ≤ w.heap.size)
  (h : ∀ v' W W',Ext w W → OwnFsN W' base v' (fs ++ [f]) → W.grownBy W' v.ownBlock → wpSched Tryd.prog l Q n r (a.put (some d) v') W') : wpSched Tryd.prog l Q n ((false,[k]) :: r) a w:=by
 refine zdk o ho hgd fun W hW => ?_
 obtain ⟨v',w',hr,hO,hG⟩:=run_append_fdN (c1:=c) o.type (hown.keep hW) g f al (hW.block hg) hc (hb.ext hW) hne hN hn (Nat.le_trans hbase (Below.size hW))
 unfold Oper.wp execOp
 simp only [hop,resolve,invoke,builtin,Sem.run_bind,Sem.run_pure,Result.andThen_ok,List.map_toArray,List.map_cons,List.map_nil,hs,hx,hr]
 show (k < n → Ext W w') ∧ _
 rw [hd]
 exact ⟨fun h => absurd h hkn,h v' W w' hW hO hG⟩
end
def RZ : Array Value:=#[.int .i64 0,.int .i64 0,.int .i64 0,.int .i64 0,.int .i64 0,.int .i64 0,.int .i64 0,.int .i64 0,.int .u8 0,.int .u8 0,.int .u8 0,.int .u8 0,.int .u8 0,.int .u8 0,.int .u8 0,.int .u8 0,.int .u8 0,.int .u8 0,.int .u8 0,.int .u8 0,.int .u8 0,.int .u8 0,.int .u8 0,.int .u8 0,.int .u8 0,.int .u8 0,.int .u8 0,.int .u8 0,.int .u8 0,.int .u8 0,.int .u8 0,.int .u8 0,.int .u8 0,.int .u8 0,.int .u8 0,.int .u8 0,.int .u8 0,.int .u8 0,.int .u8 0,.int .u8 0,.slice none 0 0]
def DZ : Array Value:=#[.int .u8 0,.int .u8 0,.int .u8 0,.int .u8 0,.int .u8 0,.int .u8 0,.int .u8 0,.int .u8 0,.int .u8 0,.int .u8 0,.int .u8 0,.int .u8 0,.int .u8 0,.int .u8 0,.int .u8 0,.int .u8 0,.int .u8 0,.int .u8 0,.int .u8 0,.int .u8 0,.int .u8 0,.int .u8 0,.int .u8 0,.int .u8 0,.int .u8 0,.int .u8 0,.int .u8 0,.int .u8 0,.int .u8 0,.int .u8 0,.int .u8 0,.int .u8 0]
theorem iRZ : (Tryd.prog.info? 35).map (·.size) = some RZ.size:=by kernel_rfl
theorem iDZ : (Tryd.prog.info? 33).map (·.size) = some DZ.size:=by kernel_rfl
theorem zcx : RZ.all (·.oneCell') = true:=by simp [RZ,Value.oneCell']
theorem dz_one : DZ.all (·.oneCell') = true:=by simp [DZ,Value.oneCell']
theorem nilD_wf : nilD.length = 32 ∧ Byt nilD:=⟨rfl,fun x hx => by rw [List.eq_of_mem_replicate hx]; decide⟩
theorem zfi {bs : List Nat} (h : partsB bs = none) : openR bs = none:=by
 unfold openR
 rw [h]
theorem openR_un {bs body : List Nat} {x y : Nat} (h : partsB bs = some (body,x,y)) : openR bs = (unB body).map fun r => (r,body,x,y):=by
 unfold openR
 rw [h]
 show (match unB body with | some r => _ | none => _) = _
 cases unB body <;> rfl
theorem zcf {P : Program} {fn : Func} {q p m s : Tmp} {ty ty2 ty3 : TypeId} (h : fn.results = #[.cell q ty,.cell p ty2,.cell m ty3,.tmp s]) (tmps : Array Value) (w : World) (g g2 g3 : Nat) (t t2 t3 : TypeId) (cs cs2 cs3 : Array Value) (fr fr2 fr3 : Nat × Nat) (d d2 d3 : TypeDesc)
  (hq : tmps.getD q undef = .pointer (some ⟨g,0,none⟩)) (hg : w.heap[g]? = some (.cells cs t fr)) (hu : P.underlying ty = some d) (hd : d.isRow = true) (hi : (P.info? ty).map (·.size) = some cs.size)
  (hp : tmps.getD p undef = .pointer (some ⟨g2,0,none⟩)) (hg2 : w.heap[g2]? = some (.cells cs2 t2 fr2)) (hu2 : P.underlying ty2 = some d2) (hd2 : d2.isRow = true) (hi2 : (P.info? ty2).map (·.size) = some cs2.size)
  (hm : tmps.getD m undef = .pointer (some ⟨g3,0,none⟩)) (hg3 : w.heap[g3]? = some (.cells cs3 t3 fr3)) (hu3 : P.underlying ty3 = some d3) (hd3 : d3.isRow = true) (hi3 : (P.info? ty3).map (·.size) = some cs3.size) :
  (results fn tmps).run P w = .ok (.tuple #[.agg cs,.agg cs2,.agg cs3,tmps.getD s undef]) w:=by
 have hq' : tmps[q]?.getD undef = .pointer (some ⟨g,0,none⟩):=by simpa using hq
 have hp' : tmps[p]?.getD undef = .pointer (some ⟨g2,0,none⟩):=by simpa using hp
 have hm' : tmps[m]?.getD undef = .pointer (some ⟨g3,0,none⟩):=by simpa using hm
 have hl : (loadVar ty ⟨g,0,none⟩).run P w = .ok (.agg cs) w:=run_loadVar_mid w g 0 ty cs.toList d (fun j v hv => by rw [cell_of_row w g (0 + j) cs t fr hg,Nat.zero_add]; simpa using hv) hu hd (by simpa using hi)
 have hl2 : (loadVar ty2 ⟨g2,0,none⟩).run P w = .ok (.agg cs2) w:=run_loadVar_mid w g2 0 ty2 cs2.toList d2 (fun j v hv => by rw [cell_of_row w g2 (0 + j) cs2 t2 fr2 hg2,Nat.zero_add]; simpa using hv) hu2 hd2 (by simpa using hi2)
 have hl3 : (loadVar ty3 ⟨g3,0,none⟩).run P w = .ok (.agg cs3) w:=run_loadVar_mid w g3 0 ty3 cs3.toList d3 (fun j v hv => by rw [cell_of_row w g3 (0 + j) cs3 t3 fr3 hg3,Nat.zero_add]; simpa using hv) hu3 hd3 (by simpa using hi3)
 simp [results,h,hq',hp',hm',asAddr,hl,hl2,hl3]
theorem zdw {l : List Oper} {pl : List Pl} {k : Nat} (h : FPl l pl k) : some k ∈ oldL pl:=by
 obtain ⟨i,_,_,_,_,hs⟩:=h
 exact List.mem_of_getElem? (oldL_at hs)
def cpF (X : Array Value) (p : List Nat) (k j : Nat) : Value:=if 8 ≤ j ∧ j < 8 + k then .int .u8 (p.getD (j - 8) 0 : Nat) else X.getD j undef
theorem cp_zero {X : Array Value} {p : List Nat} {j : Nat} (hj : j < X.size) : X[j]? = some (cpF X p 0 j):=by
 unfold cpF
 rw [if_neg (by omega)]
 simp [Array.getD,hj]
theorem cp_done (r r' : Rc) (v : Value) (p : List Nat) (h : r = { r' with pv:=nilD }) (h' : r'.pv = p) : arrOf 41 (cpF (rcC r v) p 32) = rcC r' v:=by
 subst h'
 subst h
 refine (zgh (rcC_size r' v) fun i hi => ?_).symm
 match i,hi with
 | 0,_ => rfl
 | 1,_ => rfl
 | 2,_ => rfl
 | 3,_ => rfl
 | 4,_ => rfl
 | 5,_ => rfl
 | 6,_ => rfl
 | 7,_ => rfl
 | 8,_ => rfl
 | 9,_ => rfl
 | 10,_ => rfl
 | 11,_ => rfl
 | 12,_ => rfl
 | 13,_ => rfl
 | 14,_ => rfl
 | 15,_ => rfl
 | 16,_ => rfl
 | 17,_ => rfl
 | 18,_ => rfl
 | 19,_ => rfl
 | 20,_ => rfl
 | 21,_ => rfl
 | 22,_ => rfl
 | 23,_ => rfl
 | 24,_ => rfl
 | 25,_ => rfl
 | 26,_ => rfl
 | 27,_ => rfl
 | 28,_ => rfl
 | 29,_ => rfl
 | 30,_ => rfl
 | 31,_ => rfl
 | 32,_ => rfl
 | 33,_ => rfl
 | 34,_ => rfl
 | 35,_ => rfl
 | 36,_ => rfl
 | 37,_ => rfl
 | 38,_ => rfl
 | 39,_ => rfl
 | 40,_ => rfl
 | i + 41,h => exact absurd h (by omega)
abbrev Tv:=Value × List Nat
def tvC (x : Tv) : List Value:=[x.1]
def TvAt (w : World) (x : Tv) : Prop:=∃ A c,x.1 = .slice A x.2.length c ∧ x.2.length ≤ c ∧ Bs w A x.2
theorem TvAt.ext {w w' : World} {x : Tv} (h : TvAt w x) (k : Ext w w') : TvAt w' x:=by
 obtain ⟨A,c,e,hc,hb⟩:=h
 exact ⟨A,c,e,hc,hb.ext k⟩
def Tx (w : World) (v : Value) (l : List Tv) : Prop:=Ls 1 tvC w v l ∧ ∀ x ∈ l,TvAt w x
theorem Tx.ext {w w' : World} {v : Value} {l : List Tv} (h : Tx w v l) (k : Ext w w') : Tx w' v l:=⟨h.1.ext k,fun x hx => (h.2 x hx).ext k⟩
def txs (l : List Tv) : List (List Nat):=l.map (·.2)
theorem txs_len (l : List Tv) : (txs l).length = l.length:=List.length_map ..
def noTv : Tv:=(.slice none 0 0,[])
theorem tv_get {l : List Tv} {i : Nat} (h : i < l.length) : l[i]? = some (l.getD i noTv):=by rw [List.getD_eq_getElem?_getD,List.getElem?_eq_getElem h]; rfl
theorem txt_cell {w w' : World} {b o i : Nat} {l : List Tv} (hE : Ext w w') (hb : b < w.heap.size) (h : ∀ i x,l[i]? = some x → w.rangeAt b (o + i * 1) (tvC x)) (hi : i < l.length) : w'.cell? ⟨b,o + i,none⟩ = some (l.getD i noTv).1:=by
 have:=range_ext hE hb (h i _ (tv_get hi)) 0 _ rfl
 simpa using this
theorem zdh {P : Program} {ops : Array Oper} {rest : List Oper} {o : Oper} {a : Act} {w : World} {Q : Exit → Act → World → Prop} (hgd : Region.wanted o (yielded ops a.tmps) = true) (ty : TypeId) (x : Operand) (ho : o.op = .load ty x)
  (g : Nat) (hx : a.eval x = .pointer (some ⟨g,0,none⟩)) (t : TypeId) (cs : Array Value) (fr : Nat × Nat) (d : TypeDesc) (hg : w.heap[g]? = some (.cells cs t fr))
  (hu : P.underlying ty = some d) (hd : (match d with | .struct _ | .array _ _ => true | _ => false) = true) (hi : (P.info? ty).map (·.size) = some cs.size)
  (h : wpList P ops Q rest (a.put o.dst (.agg cs)) w) : wpList P ops Q (o :: rest) a w :=
 wpList_step fun K hK => by
  rw [if_pos hgd]
  exact wp_load_row ty x ho g hx t cs fr d hg hu hd hi (hK _ _ h)
/-! ### what the laws ask of the landed package -/
theorem eqCode22 (w : World) : (binOp .eql 39 (.iface 44 (.int .i64 2)) (.iface 44 (.int .i64 2))).run Tryd.prog w = .ok (.bool true) w:=by kernel_rfl
def dgP (p : List Nat) : Array Value:=dgc fun j => p.getD j 0
theorem dgP_map (f : Nat → Nat) : dgP ((List.range 32).map f) = dgc f:=arrOf_congr fun i hi => by
 show Value.int .u8 ((((List.range 32).map f).getD i 0 : Nat) : Int) = _
 rw [List.getD_eq_getElem?_getD,List.getElem?_map,List.getElem?_range hi]
 rfl
theorem run_items17 (d : Nat) (xs ys : Array Value) (A B : Nat → Int) (w : World) : ∀ is : List Nat,(∀ i ∈ is,xs[i]? = some (.int .u8 (A i))) → (∀ i ∈ is,ys[i]? = some (.int .u8 (B i))) →
  (Op.eqItems (d + 1) 5 1 xs ys is).run Tryd.prog w = .ok (is.all fun i => A i == B i) w
 | [],_,_ => by simp [Op.eqItems]
 | i :: is,hx,hy => by
  have e1:=run_part_plain (P:=Tryd.prog) w (e:=5) (by kernel_rfl) (xs:=xs) (off:=i * 1) (v:=.int .u8 (A i)) (by rw [Nat.mul_one]; exact hx i (by simp))
  have e2:=run_part_plain (P:=Tryd.prog) w (e:=5) (by kernel_rfl) (xs:=ys) (off:=i * 1) (v:=.int .u8 (B i)) (by rw [Nat.mul_one]; exact hy i (by simp))
  have e3:=run_equalIn_int (P:=Tryd.prog) w d 5 .u8 .u8 (A i) (B i) Tryd.underlying5
  have ih:=run_items17 d xs ys A B w is (fun j hj => hx j (by simp [hj])) (fun j hj => hy j (by simp [hj]))
  simp only [Op.eqItems,Sem.run_bind,e1,e2,e3,Result.andThen_ok]
  by_cases h : A i = B i
  ·
   simp [h,ih]
  ·
   simp [h]
theorem dgP_get (p : List Nat) {j : Nat} (hj : j < 32) : (dgP p)[j]? = some (.int .u8 ((p.getD j 0 : Nat) : Int)):=zbc _ hj
theorem all_same {p q : List Nat} (hp : p.length = 32) (hq : q.length = 32) : ((List.range 32).all fun i => ((p.getD i 0 : Nat) : Int) == ((q.getD i 0 : Nat) : Int)) = decide (p = q):=by
 by_cases h : p = q
 ·
  subst h
  simp
 ·
  rw [decide_eq_false h,Bool.eq_false_iff]
  intro hA
  rw [List.all_eq_true] at hA
  refine h (List.ext_getElem (by omega) fun i h1 h2 => ?_)
  have:=hA i (by simp; omega)
  simp only [beq_iff_eq,List.getD_eq_getElem?_getD,List.getElem?_eq_getElem h1,List.getElem?_eq_getElem h2,Option.getD_some] at this
  omega
theorem eql_dgP {p q : List Nat} (hp : p.length = 32) (hq : q.length = 32) (w : World) : (binOp .eql 33 (.agg (dgP p)) (.agg (dgP q))).run Tryd.prog w = .ok (.bool (decide (p = q))) w:=by
 obtain ⟨i,hi⟩ : ∃ i,Tryd.prog.info? 5 = some i:=Option.isSome_iff_exists.1 (by kernel_rfl)
 have hc : Tryd.prog.cellsOf 5 = 1:=by kernel_rfl
 rw [run_eql_struct,run_equalIn_array (P:=Tryd.prog) w 9999 _ _ Tryd.underlying33 hi,hc]
 have h:=run_items17 9998 (dgP p) (dgP q) (fun j => ((p.getD j 0 : Nat) : Int)) (fun j => ((q.getD j 0 : Nat) : Int)) w (List.range 32) (fun j hj => dgP_get p (by simpa using hj)) (fun j hj => dgP_get q (by simpa using hj))
 rw [h,all_same hp hq]
 rfl
theorem gDg (D D' : Array Value) (op : BinOp) (x y : Operand) (W : World) : (eqGuard op 33 x y (.agg D) (.agg D')).run Tryd.prog W = .ok () W:=by
 cases op <;> simp [eqGuard,go_sem]
theorem wpl_midG {P : Program} {ops : Array Oper} {rest : List Oper} {o : Oper} {a : Act} {w : World} {Q : Exit → Act → World → Prop} (hgd : Region.wanted o (yielded ops a.tmps) = true) (ty : TypeId) (x : Operand) (ho : o.op = .load ty x)
  (g off : Nat) (hx : a.eval x = .pointer (some ⟨g,off,none⟩)) (cs : Array Value) (d : TypeDesc) (hc : ∀ j v,cs[j]? = some v → w.cell? ⟨g,off + j,none⟩ = some v)
  (hu : P.underlying ty = some d) (hd : d.isRow = true) (hi : (P.info? ty).map (·.size) = some cs.size)
  (h : wpList P ops Q rest (a.put o.dst (.agg cs)) w) : wpList P ops Q (o :: rest) a w :=
 wpList_step fun K hK => by
  rw [if_pos hgd]
  have hl : (loadVar ty ⟨g,off,none⟩).run P w = .ok (.agg cs) w:=run_loadVar_mid w g off ty cs.toList d (fun j v hv => hc j v (by simpa using hv)) hu hd (by simpa using hi)
  unfold Oper.wp execOp
  simp only [ho,hx,Instr.loadAt,Instr.sureAddr,Sem.run_bind,Sem.run_pure,Result.andThen_ok,hl]
  exact hK _ _ h
/-! ### three blocks -/
def stored3 (w : World) (X D G : Array Value) : World:=(((((w.alloc (.cells RZ 35)).alloc (.cells DZ 33)).alloc (.cells Z8 37)).setRow w.heap.size X).setRow (w.heap.size + 1) D).setRow (w.heap.size + 1 + 1) G
theorem zbs (w : World) (o o2 o3 : Obj) : (((w.alloc o).alloc o2).alloc o3).heap[w.heap.size]? = some o ∧ (((w.alloc o).alloc o2).alloc o3).heap[w.heap.size + 1]? = some o2 ∧ (((w.alloc o).alloc o2).alloc o3).heap[w.heap.size + 1 + 1]? = some o3:=by
 have h1:=two_new w o o2
 have h3:=zae ((w.alloc o).alloc o2) o3
 have e : ((w.alloc o).alloc o2).heap.size = w.heap.size + 1 + 1:=by rw [World.size_alloc,World.size_alloc]
 rw [e] at h3
 have hE:=Ext.alloc ((w.alloc o).alloc o2) o3
 exact ⟨hE.block h1.1,hE.block h1.2,h3⟩
theorem zfv (w : World) (X D G : Array Value) : Ext w (stored3 w X D G) ∧ (stored3 w X D G).heap[w.heap.size]? = some (.cells X 35 (0,0)) ∧ (stored3 w X D G).heap[w.heap.size + 1]? = some (.cells D 33 (0,0)) ∧ (stored3 w X D G).heap[w.heap.size + 1 + 1]? = some (.cells G 37 (0,0)):=by
 have h:=zbs w (.cells RZ 35) (.cells DZ 33) (.cells Z8 37)
 have hE:=(two_ext w (.cells RZ 35) (.cells DZ 33)).trans (Ext.alloc _ (.cells Z8 37))
 have h2:=two_rows (T:=X) (G:=D) hE h.1 h.2.1 ⟨Nat.le_refl _,Nat.lt_succ_self _⟩
 refine ⟨zas h2.1 (by omega) G,(zaj _ G (by omega)).trans h2.2.1,(zaj _ G (by omega)).trans h2.2.2,?_⟩
 exact setRow_heap _ _ Z8 G 37 (0,0) (zar D (zar X h.2.2 (by omega)) (by omega))
section
variable {dg : List Nat → Nat → Nat} {vf : (Nat → Nat) → Nat → Nat → Bool} {dev : Int} {i : Nat} {last bs body : List Nat} {r : Rc} {x y : Nat}
theorem link_off (h : openR bs = none) : linkR dg vf dev i last bs = none:=by
 unfold linkR
 rw [h]
theorem link_if (h : openR bs = some (r,body,x,y)) : linkR dg vf dev i last bs = if r.dv = dev ∧ r.sq = (i : Int) ∧ r.pv = last ∧ vf (dg body) x y = true then some ((List.range 32).map (dg body)) else none:=by
 unfold linkR
 rw [h]
theorem link_no (h : openR bs = some (r,body,x,y)) (hn : ¬ (r.dv = dev ∧ r.sq = (i : Int) ∧ r.pv = last ∧ vf (dg body) x y = true)) : linkR dg vf dev i last bs = none:=by
 rw [link_if h,if_neg hn]
theorem link_yes (h : openR bs = some (r,body,x,y)) (hn : r.dv = dev ∧ r.sq = (i : Int) ∧ r.pv = last ∧ vf (dg body) x y = true) : linkR dg vf dev i last bs = some ((List.range 32).map (dg body)):=by
 rw [link_if h,if_pos hn]
end
theorem txs_get {l : List Tv} {k : Nat} (h : k < l.length) : (txs l)[k]? = some (l.getD k noTv).2:=by
 unfold txs
 rw [List.getElem?_map,tv_get h]
 rfl
def BodyA17 (w' : World) (r : Rc) (x ev : Value) : Prop :=
 (mayC r = false ∧ (∃ A c,x = .slice A 0 c) ∧ ev = .iface 44 (.int .i64 1)) ∨
 (mayC r = true ∧ (∃ A c,x = .slice A (rcB r).length c ∧ (rcB r).length ≤ c ∧ Bs w' A (rcB r)) ∧ ev = .nilIface)
def OpenC17 (L : Low) (w' : World) (bs : List Nat) (X D G : Array Value) (ev : Value) : Prop :=
 (openR bs = none ∧ X = RZ ∧ D = DZ ∧ G = gc 0 0 ∧ ev = .iface 44 (.int .i64 2)) ∨ (∃ r body x s,openR bs = some (r,body,x,s) ∧ Rv17 w' X r ∧ D = dgc (L.dg body) ∧ G = gc x s ∧ ev = .nilIface)
structure Code17 (L : Low) (I : World → Prop) : Prop where
 keep : ∀ w w',I w → Ext w w' → I w'
 body : ∀ X r w,Rv17 w X r → r.bs.length ≤ 5000 → Calls Tryd.prog 7 #[.agg X] w fun e w' => ∃ x ev,e = .returned (.tuple #[x,ev]) ∧ Ext w w' ∧ BodyA17 w' r x ev
 open_ : ∀ A m c bs w,I w → m = bs.length → m ≤ c → m ≤ 5000 → Bs w A bs → Calls Tryd.prog 6 #[.slice A m c] w fun e w' => ∃ X D G ev,e = .returned (.tuple #[.agg X,.agg D,.agg G,ev]) ∧ Ext w w' ∧ OpenC17 L w' bs X D G ev
 chain : ∀ v l dev X Y f w,I w → X < top → Y < top → l.length ≤ 20 → (∀ x ∈ l,x.2.length ≤ 5000) → Tx w v l → Calls Tryd.prog 5 #[v,.int .i64 dev,qv X Y f] w fun e w' => e = .returned (.int .i64 (chainR L.dg (fun y r s => L.vf X Y f y r s) dev 0 nilD (txs l) : Nat)) ∧ Ext w w'
theorem openR_nil : openR [] = none:=by decide
theorem openC_none {L : Low} {w' : World} {bs : List Nat} {X D G : Array Value} {ev : Value} (h : OpenC17 L w' bs X D G ev) (hn : openR bs = none) : X = RZ ∧ D = DZ ∧ G = gc 0 0 ∧ ev = .iface 44 (.int .i64 2):=by
 rcases h with ⟨_,h⟩ | ⟨r,body,x,s,h,_⟩
 ·
  exact h
 ·
  rw [hn] at h; cases h
def rcUp : Rc:=⟨1,0,0,2,0,0,0,0,nilD,[]⟩
theorem rcUp_v (w : World) : Rv17 w (rcC rcUp (.slice none 0 0)) rcUp:=⟨⟨rfl,nilD_wf.2,fun x hx => by cases hx⟩,none,0,rfl,Nat.le_refl _,Bs.nil w none⟩
theorem rcUp_may : mayC rcUp = true:=by decide
theorem rcUp_len : (rcB rcUp).length = 126:=by rw [rcB_length rfl]; rfl
theorem bldUp (W : World) : (Instr.build 35 #[(0,.int .i64 1),(3,.int .i64 2)]).run Tryd.prog W = .ok (.agg (rcC rcUp (.slice none 0 0))) W:=by kernel_rfl
theorem up_tx {w : World} {g t : Nat} (h : w.heap[g]? = some (.cells #[.slice none 0 0] t (0,0))) : Tx w (.slice (some ⟨g,0,none⟩) 1 1) [noTv]:=by
 refine ⟨ls_one h,fun x hx => ?_⟩
 rw [List.mem_singleton.1 hx]
 exact ⟨none,0,rfl,Nat.le_refl _,Bs.nil w none⟩
theorem up_chain (dg : List Nat → Nat → Nat) (vf : (Nat → Nat) → Nat → Nat → Bool) (dev : Int) : chainR dg vf dev 0 nilD (txs [noTv]) = 0:=chainR_none (link_off openR_nil)
theorem up17_calls {L : Low} {I : World → Prop} (C : Code17 L I) (w : World) (hI : I w) : Calls Tryd.prog 4 #[] w fun e w' => e = .returned (.bool true) ∧ Ext w w':=by
 have HI:=veil hI
 have KO:=veil (C.open_ none 0 0 [] w hI rfl (Nat.le_refl _) (by decide) (Bs.nil w none))
 have HC:=veil C
 have KB:=veil (fun W => C.body _ rcUp W (rcUp_v W) (by decide))
 have KC : Hid (∀ W v,I W → Tx W v [noTv] → Calls Tryd.prog 5 #[v,.int .i64 1,.agg #[vI vU 0,vI vU 0,vI vU 0,vI vU 0,vI vU 0,vI vU 0,vI vU 0,vI vU 0,.bool false]] W fun e w' => e = .returned (.int .i64 0) ∧ Ext W w'):=veil (fun W v hI hT => by
  have h:=C.chain v [noTv] 1 0 0 false W hI (by decide) (by decide) (by decide) (fun x hx => by rw [List.mem_singleton.1 hx]; decide) hT
  rw [up_chain] at h
  exact h)
 have e1:=eqCode22
 have e2:=eqNilNil
 clear hI C
 go_enter Tryd.func4,Tryd.ntmps4
 go_upto_region 2 with (first
  | (go_at_call 6; refine KO.out.mono ?_; rintro e w2 ⟨X,D,G,ev,rfl,hE2,hA⟩; obtain ⟨rfl,rfl,rfl,rfl⟩:=openC_none hA openR_nil)
  | ((with_reducible refine zag ?_); refine wpList_store_row rfl 35 _ _ rfl w2.heap.size RZ rfl rfl 35 _ (zbs w2 _ _ _).1 iRZ rfl zcx ?_)
  | ((with_reducible refine zag ?_); refine wpList_store_row rfl 33 _ _ rfl (w2.heap.size + 1) DZ rfl rfl 33 _ (zar _ (zbs w2 _ _ _).2.1 (Nat.lt_succ_self _)) iDZ rfl dz_one ?_)
  | ((with_reducible refine zag ?_); refine wpList_store_row rfl 37 _ _ rfl (w2.heap.size + 1 + 1) (gc 0 0) rfl rfl 37 _ (zar _ (zar _ (zbs w2 _ _ _).2.2 (by omega)) (by omega)) (iSg 0 0) rfl (gc_one 0 0) ?_))
 change Code.wp _ _ _ _ (stored3 w2 RZ DZ (gc 0 0))
 have hF:=zfv w2 RZ DZ (gc 0 0)
 generalize stored3 w2 RZ DZ (gc 0 0) = w3 at *
 have H3:=veil (hE2.trans hF.1)
 clear hF hA hE2 KO
 go_upto_region 3 with (first
  | ((with_reducible refine zac 14 ?_); refine wpl_val (.agg (rcC rcUp (.slice none 0 0))) rfl (run_build_v rfl rfl (bldUp _)) ?_)
  | (go_at_call 7; refine (KB.out _).mono ?_; rintro e w4 ⟨x,ev,rfl,hE4,hA⟩))
 rcases hA with ⟨hm,_⟩ | ⟨_,⟨A,c,rfl,hc,hB⟩,rfl⟩
 ·
  rw [rcUp_may] at hm; cases hm
 ·
  rw [rcUp_len]
  have H4:=veil (H3.out.trans hE4)
  clear hE4 hB hc H3 KB
  go_wp2_with (go_at_call 5; refine (KC.out _ _ (HC.out.keep _ _ HI.out (H4.out.trans (Ext.alloc w4 _))) (up_tx (zae w4 _))).mono ?_; rintro e w5 ⟨rfl,hE5⟩)
  go_ret
  exact ⟨rfl,(H4.out.trans (Ext.alloc w4 _)).trans hE5⟩
theorem cut_to_t (A : Option Addr) (r c m : Nat) (hm : m ≤ c) (w : World) : (Instr.sliceAt 22 (.slice A r c) none (some (.int .i64 (m : Int))) none).run Tryd.prog w = .ok (.slice A m c) w:=by
 have e2 : ((sizeOf (Tryd.prog.elem 22)).run Tryd.prog w) = .ok 1 w:=by kernel_rfl
 have h : (Instr.sliceAt 22 (.slice A r c) none (some (.int .i64 (m : Int))) none).run Tryd.prog w = .ok (.slice (cutA A 0 c) m c) w:=by
  rw [run_sliceAt_slice w 22 _ _ _ _ (by kernel_rfl),run_slice_h w 22 A r c (by kernel_rfl) .i64 (m : Int) (by omega) (by omega),e2]
  simp [sliced,Result.andThen,cutA]
 rw [h,cutA_zero]
theorem Tx.take {w : World} {A : Option Addr} {n c : Nat} {l : List Tv} (h : Tx w (.slice A n c) l) {m : Nat} (hm : m ≤ n) : Tx w (.slice A m c) (l.take m):=by
 obtain ⟨⟨A',c',e,hc,hx⟩,hA⟩:=h
 injection e with e1 e2 e3
 subst e1 e3
 have hl : (l.take m).length = m:=by rw [List.length_take]; omega
 refine ⟨⟨A,c,by rw [hl],by omega,?_⟩,fun x hx' => hA x (List.mem_of_mem_take hx')⟩
 by_cases h0 : m = 0
 ·
  exact .inl (by omega)
 ·
  obtain ⟨b,o,ha,hb,hr⟩:=hx.resolve_left (by omega)
  refine .inr ⟨b,o,ha,hb,fun i x hi => hr i x ?_⟩
  rw [List.getElem?_take] at hi
  split at hi
  ·
   exact hi
  ·
   cases hi
theorem txs_take (l : List Tv) (m : Nat) : txs (l.take m) = (txs l).take m:=List.map_take ..
theorem links17_walk {L : Low} {I : World → Prop} (C : Code17 L I) (v : Value) (l : List Tv) (dev : Int) (X Y : Nat) (f : Bool) (k : Int) (hX : X < top) (hY : Y < top) (w : World) (hI : I w) (hT : Tx w v l) (hl : l.length ≤ 9223372036854775807) :
  Calls Tryd.prog 3 #[v,.int .i64 dev,qv X Y f,.int .i64 k] w fun e w' => e = .returned (.bool true) ∧ Ext w w':=by
 have HC:=veil C
 have HI:=veil hI
 obtain ⟨q,hq⟩ : ∃ q,q = qc X Y f:=⟨_,rfl⟩
 have HQ:=veil (And.intro hq (show (Tryd.prog.info? 27).map (·.size) = some q.size by rw [hq]; exact iT X Y f))
 have HT:=veil hT
 obtain ⟨hLs,hAt⟩:=hT
 obtain ⟨A,c,rfl,hc,hx⟩:=hLs
 have HX:=veil (And.intro hx (And.intro hAt (And.intro hX hY)))
 have KC : Hid (∀ W,Ext w W → l.length ≤ 20 → (∀ x ∈ l,x.2.length ≤ 5000) → Calls Tryd.prog 5 #[.slice A l.length c,.int .i64 dev,.agg q] W fun e w' => e = .returned (.int .i64 (chainR L.dg (fun y r s => L.vf X Y f y r s) dev 0 nilD (txs l) : Nat)) ∧ Ext W w'):=veil (fun W h h1 h2 => by
  have:=C.chain _ l dev X Y f W (C.keep _ _ hI h) hX hY h1 h2 (HT.out.ext h)
  unfold qv at this
  rwa [← hq] at this)
 have KD : Hid (∀ m W,Ext w W → m ≤ l.length → l.length ≤ 20 → (∀ x ∈ l,x.2.length ≤ 5000) → Calls Tryd.prog 5 #[.slice A m c,.int .i64 dev,.agg q] W fun e w' => e = .returned (.int .i64 ((min m (chainR L.dg (fun y r s => L.vf X Y f y r s) dev 0 nilD (txs l)) : Nat) : Int)) ∧ Ext W w'):=veil (fun m W h hm h1 h2 => by
  have:=C.chain _ (l.take m) dev X Y f W (C.keep _ _ hI h) hX hY (by rw [List.length_take]; omega) (fun x hx => h2 x (List.mem_of_mem_take hx)) ((HT.out.ext h).take hm)
  rw [txs_take,chainR_take] at this
  unfold qv at this
  rwa [← hq] at this)
 obtain ⟨Z,hZ⟩ : ∃ Z : Nat,Z = chainR L.dg (fun y r s => L.vf X Y f y r s) dev 0 nilD (txs l):=⟨_,rfl⟩
 have hZl : Z ≤ l.length:=by rw [hZ,← txs_len l]; exact chainR_le
 rw [← hZ] at KC KD
 unfold qv
 rw [← hq]
 obtain ⟨n,hn⟩ : ∃ n,n = l.length:=⟨_,rfl⟩
 rw [← hn] at KC KD hc hZl ⊢
 have HN:=veil hn
 rw [← hn] at hl
 clear hx hAt C hI hq hn hX hY hZ HT
 have h6:=zae w (.cells q 27)
 have hE0:=Ext.alloc w (.cells q 27)
 go_enter Tryd.func3,Tryd.ntmps3
 go_upto_region 1 with (fail)
 obtain ⟨g6,hg6⟩ : ∃ g,g = w.heap.size:=⟨_,rfl⟩
 rw [← hg6] at h6 ⊢
 generalize w.alloc (.cells q 27) = w0 at *
 have KU:=veil (up17_calls HC.out w0 (HC.out.keep _ _ HI.out hE0))
 have H0:=veil (And.intro hE0 h6)
 clear hE0 h6 hg6
 go_upto_region 2 with (go_at_call 4; refine KU.out.mono ?_; rintro e w1 ⟨rfl,hE1⟩)
 have H1:=veil (And.intro (H0.out.1.trans hE1) (hE1.block H0.out.2))
 clear hE1 H0 KU
 by_cases p0 : (20 : Int) < (n : Int)
 ·
  have hd : decide ((20 : Int) < (n : Int)) = true:=decide_eq_true p0
  go_wp2
  go_ret
  exact ⟨rfl,H1.out.1⟩
 have hd : decide ((20 : Int) < (n : Int)) = false:=decide_eq_false p0
 have hn20 : n ≤ 20:=by omega
 by_cases p1 : k < 0
 ·
  have hd1 : decide (k < 0) = true:=decide_eq_true p1
  go_wp2
  go_ret
  exact ⟨rfl,H1.out.1⟩
 have hd1 : decide (k < 0) = false:=decide_eq_false p1
 by_cases p2 : (n : Int) < k
 ·
  have hd2 : decide ((n : Int) < k) = true:=decide_eq_true p2
  go_wp2
  go_ret
  exact ⟨rfl,H1.out.1⟩
 have hd2 : decide ((n : Int) < k) = false:=decide_eq_false p2
 obtain ⟨m,rfl⟩ : ∃ m : Nat,k = (m : Int):=⟨k.toNat,by omega⟩
 have hmn : m ≤ n:=by omega
 go_upto_region 5 with (fail)
 clear hd hd1 hd2
 go_loopw [10] (fun u wr => ∃ i : Nat,i ≤ n ∧ u = .int .i64 (i : Int) ∧ (∀ j,j < i → (l.getD j noTv).2.length ≤ 5000) ∧ wr = w1)
  (fun u _ => n - (intOf u).toNat)
 case atStart => exact ⟨0,by omega,rfl,fun j hj => by omega,rfl⟩
 case round =>
  obtain ⟨i,hi,rfl,hall,rfl⟩:=hrel
  by_cases hlt : i < n
  ·
   have hd1 : decide ((i : Int) < (n : Int)) = true:=by simp; omega
   have hii : (i : Int) < (n : Int):=by omega
   have hil : i < l.length:=by have:=HN.out; omega
   obtain ⟨b,o,hA,hb,hcl⟩:=HX.out.1.resolve_left (by omega)
   have cc:=txt_cell H1.out.1 hb hcl hil
   obtain ⟨A1,c1,hx1,hc1,_⟩:=HX.out.2.1 _ (List.mem_of_getElem? (tv_get hil))
   obtain ⟨t,ht⟩ : ∃ t,t = (l.getD i noTv).2.length:=⟨_,rfl⟩
   rw [hx1,← ht] at cc
   have HA:=veil (And.intro hall ht)
   subst hA
   clear hall ht hx1 hc1 hcl hb
   by_cases p3 : (5000 : Int) < (t : Int)
   ·
    have hd2 : decide ((5000 : Int) < (t : Int)) = true:=decide_eq_true p3
    clear KC KD
    go_wp2
    go_ret
    exact ⟨rfl,H1.out.1⟩
   ·
    have hd2 : decide ((5000 : Int) < (t : Int)) = false:=decide_eq_false p3
    go_wp2
    go_roundw
    case rel =>
     refine ⟨i + 1,by omega,by go_num,fun j hj => ?_,trivial⟩
     by_cases e : j = i
     ·
      rw [e,← HA.out.2]; omega
     ·
      exact HA.out.1 j (by omega)
    case measure => simp [intOf]; omega
  ·
   obtain rfl : i = n:=by omega
   have hd1 : decide ((i : Int) < (i : Int)) = false:=by simp
   have h2 : ∀ x ∈ l,x.2.length ≤ 5000:=fun x hx => by
    obtain ⟨j,hj,e⟩:=List.getElem_of_mem hx
    have:=hall j (by have:=HN.out; omega)
    rw [List.getD_eq_getElem?_getD,List.getElem?_eq_getElem hj,e] at this
    exact this
   have KC2:=veil (fun W h => KC.out W h hn20 h2)
   have KD2:=veil (fun W h => KD.out m W h hmn hn20 h2)
   clear KC KD h2 hall
   go_upto_region 10 with (first
    | ((with_reducible refine zac 43 ?_); refine wpList_load_row rfl 27 _ rfl g6 rfl 27 q (0,0) _ H1.out.2 Tryd.underlying27 rfl HQ.out.2 ?_)
    | (go_at_call 5; refine (KC2.out _ H1.out.1).mono ?_; rintro e w2 ⟨rfl,hE2⟩))
   have H2:=veil (And.intro (H1.out.1.trans hE2) (hE2.block H1.out.2))
   clear hE2 H1 KC2
   refine' wp_made (m:=7) (A:=_) 7 (by kernel_rfl) (by kernel_rfl) (by kernel_rfl) ?h1 ?h2
   case h1 =>
    refine zbj (.slice A i c) rfl (zca (.inl rfl) rfl) ?_
    refine zbj (.int .i64 (m : Int)) rfl (zca (.inl rfl) rfl) ?_;simp only [aP,lA,lZ,lS]
    refine zbj (.slice A m c) rfl (made_slice rfl rfl (fun W => cut_to_t A i c m (by omega) W)) ?_
    refine zbj (.int .i64 dev) rfl (zca (.inl rfl) rfl) ?_;simp only [aP,lA,lZ,lS]
    refine zbj (.agg q) rfl (made_row rfl rfl H2.out.2 Tryd.underlying27 rfl HQ.out.2) ?_
    refine zbj (.int .i64 ((min m Z : Nat) : Int)) rfl (made_fun (args:=[.slice A m c,.int .i64 dev,.agg q]) rfl rfl (fun W => zcm Tryd.func5 rfl rfl _ W) (fun W hW => KD2.out W (H2.out.1.trans hW))) ?_;simp only [aP,lA,lZ,lS]
    refine zbj (.int .i64 ((min m Z : Nat) : Int)) rfl (zca (.inr rfl) rfl) ?_;simp only [aP,lA,lZ,lS]
    exact mk_end
   refine rest_done rfl (by kernel_rfl) ?_
   intro w3 hE3
   refine NoPanic.normal ?_
   have H3:=veil (H2.out.1.trans hE3)
   clear hE3 H2 KD2
   by_cases p4 : Z < m
   ·
    have hd4 : decide ((Z : Int) < (m : Int)) = true:=by simp; omega
    have e : min m Z = Z:=by omega
    rw [e]
    have e2 : ((Z : Int) == (Z : Int)) = true:=by simp
    clear e
    go_wp2
    go_ret
    exact ⟨rfl,H3.out⟩
   ·
    have hd4 : decide ((Z : Int) < (m : Int)) = false:=by simp; omega
    have e : min m Z = m:=by omega
    rw [e]
    have e2 : ((m : Int) == (m : Int)) = true:=by simp
    clear e
    go_wp2
    go_ret
    exact ⟨rfl,H3.out⟩
end Go.Proofs.YtihophdbkjhopaaDoor
namespace Go.Proofs.YtihophdbkjhopaaDoor
def rot (x n : Nat) : Nat:=x / 2 ^ n + 2 ^ (32 - n) * (x % 2 ^ n)
theorem zbe {x n : Nat} (hn : n ≤ 32) (hx : x < 2 ^ 32) : rot x n < 2 ^ 32:=by
 have hp : 0 < 2 ^ n:=Nat.pow_pos (by omega)
 have e : 2 ^ 32 = 2 ^ (32 - n) * 2 ^ n:=by rw [← Nat.pow_add]; congr 1; omega
 have hq : x / 2 ^ n < 2 ^ (32 - n):=by rw [Nat.div_lt_iff_lt_mul hp,← e]; exact hx
 have hr:=Nat.mod_lt x hp
 unfold rot
 rw [e]
 have : 2 ^ (32 - n) * (x % 2 ^ n + 1) ≤ 2 ^ (32 - n) * 2 ^ n:=Nat.mul_le_mul_left _ hr
 rw [Nat.mul_add] at this
 omega
end Go.Proofs.YtihophdbkjhopaaDoor
namespace Go.Proofs.YtihophdbkjhopaaDoor
def kList : List Nat:=[1116352408,1899447441,3049323471,3921009573,961987163,1508970993,2453635748,2870763221,3624381080,310598401,607225278,1426881987,1925078388,2162078206,2614888103,3248222580,3835390401,4022224774,264347078,604807628,770255983,1249150122,1555081692,1996064986,2554220882,2821834349,2952996808,3210313671,3336571891,3584528711,113926993,338241895,666307205,773529912,1294757372,1396182291,1695183700,1986661051,2177026350,2456956037,2730485921,2820302411,3259730800,3345764771,3516065817,3600352804,4094571909,275423344,430227734,506948616,659060556,883997877,958139571,1322822218,1537002063,1747873779,1955562222,2024104815,2227730452,2361852424,2428436474,2756734187,3204031479,3329325298]
def kc (t : Nat) : Nat:=kList.getD t 0
def ad (x y : Nat) : Nat:=(x + y) % 4294967296
def sg0 (x : Nat) : Nat:=rot x 7 ^^^ rot x 18 ^^^ (x / 2 ^ 3)
def sg1 (x : Nat) : Nat:=rot x 17 ^^^ rot x 19 ^^^ (x / 2 ^ 10)
def bs0 (x : Nat) : Nat:=rot x 2 ^^^ rot x 13 ^^^ rot x 22
def bs1 (x : Nat) : Nat:=rot x 6 ^^^ rot x 11 ^^^ rot x 25
def chN (x y z : Nat) : Nat:=(x &&& y) ^^^ ((4294967295 - x) &&& z)
def majN (x y z : Nat) : Nat:=(x &&& y) ^^^ (x &&& z) ^^^ (y &&& z)
theorem getD_lo (l r : List Nat) {t : Nat} (h : t < l.length) : (l ++ r).getD t 0 = l.getD t 0:=by simp [List.getD,List.getElem?_append_left h]
theorem getD_at (l : List Nat) (x : Nat) {t : Nat} (h : l.length = t) : (l ++ [x]).getD t 0 = x:=by subst h; simp [List.getD]
def sched (m : Nat → Nat) : Nat → List Nat
 | 0 => []
 | t + 1 => let l:=sched m t
  l ++ [if t < 16 then m t else ad (ad (ad (sg1 (l.getD (t - 2) 0)) (l.getD (t - 7) 0)) (sg0 (l.getD (t - 15) 0))) (l.getD (t - 16) 0)]
theorem zev (m : Nat → Nat) : ∀ t,(sched m t).length = t
 | 0 => rfl
 | t + 1 => by simp [sched,zev m t]
def wt (m : Nat → Nat) (t : Nat) : Nat:=(sched m (t + 1)).getD t 0
theorem zcw (m : Nat → Nat) (t : Nat) : ∀ n,t < n → (sched m n).getD t 0 = wt m t
 | 0,h => by omega
 | n + 1,h => by
  by_cases e : t = n
  ·
   subst e; rfl
  ·
   have ih:=zcw m t n (by omega)
   rw [← ih]
   show (sched m n ++ _).getD t 0 = _
   rw [getD_lo _ _ (by rw [zev]; omega)]
theorem wt_lo (m : Nat → Nat) {t : Nat} (h : t < 16) : wt m t = m t:=by
 unfold wt
 show (sched m t ++ _).getD t 0 = _
 rw [getD_at _ _ (zev m t),if_pos h]
theorem wt_hi (m : Nat → Nat) {t : Nat} (h : ¬ t < 16) : wt m t = ad (ad (ad (sg1 (wt m (t - 2))) (wt m (t - 7))) (sg0 (wt m (t - 15)))) (wt m (t - 16)):=by
 conv => lhs; unfold wt
 show (sched m t ++ _).getD t 0 = _
 rw [getD_at _ _ (zev m t),if_neg h,zcw m _ t (by omega),zcw m _ t (by omega),zcw m _ t (by omega),zcw m _ t (by omega)]
structure St where
 a : Nat
 b : Nat
 c : Nat
 d : Nat
 e : Nat
 f : Nat
 g : Nat
 h : Nat
def t1N (s : St) (k w : Nat) : Nat:=ad (ad (ad (ad s.h (bs1 s.e)) (chN s.e s.f s.g)) k) w
def t2N (s : St) : Nat:=ad (bs0 s.a) (majN s.a s.b s.c)
def stepN (s : St) (k w : Nat) : St:=⟨ad (t1N s k w) (t2N s),s.a,s.b,s.c,ad s.d (t1N s k w),s.e,s.f,s.g⟩
def roundsN (m : Nat → Nat) (s : St) : Nat → St
 | 0 => s
 | t + 1 => stepN (roundsN m s t) (kc t) (wt m t)
def addSt (x y : St) : St:=⟨ad x.a y.a,ad x.b y.b,ad x.c y.c,ad x.d y.d,ad x.e y.e,ad x.f y.f,ad x.g y.g,ad x.h y.h⟩
def blockN (m : Nat → Nat) (s : St) : St:=addSt s (roundsN m s 64)
def word (text : Nat → Nat) (i : Nat) : Nat:=text i * 16777216 + text (i + 1) * 65536 + text (i + 2) * 256 + text (i + 3)
def blocksN (text : Nat → Nat) : Nat → St
 | 0 => ⟨1779033703,3144134277,1013904242,2773480762,1359893119,2600822924,528734635,1541459225⟩
 | n + 1 => blockN (fun t => word text (64 * n + 4 * t)) (blocksN text n)
def nBlocks (len : Nat) : Nat:=(len + 9 + 63) / 64
def padded (b : Nat → Nat) (len : Nat) : Nat → Nat:=fun i =>
 if i < len then b i else if i = len then 128 else if i < 64 * nBlocks len - 8 then 0 else 8 * len / 256 ^ (64 * nBlocks len - 1 - i) % 256
def shaSt (b : Nat → Nat) (len : Nat) : St:=blocksN (padded b len) (nBlocks len)
end Go.Proofs.YtihophdbkjhopaaDoor
