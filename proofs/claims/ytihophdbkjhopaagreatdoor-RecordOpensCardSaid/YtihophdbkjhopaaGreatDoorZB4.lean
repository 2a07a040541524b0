/-
  Of Au1 AutB Au2 AutC Au3 Au4.
-/
import Derived.Deep.LoopGhost
import Derived.LoopN
import Derived.Test.YtihophdbkjhopaaGreatDoorZB3
import Derived.Test.YtihophdbkjhopaaGreatDoorZB1
set_option maxRecDepth 1000000
set_option maxHeartbeats 20000000
namespace Go.Proofs.YtihophdbkjhopaaGreatDoor
open Go.RowKit
open Go.Value renaming int → vI
open Go.IntKind renaming u64 → vU
open Go.Act renaming put → aP
open List renaming setIfInBounds_toArray → lA, set_cons_zero → lZ, set_cons_succ → lS
inductive OT (P : Program) (w0 : World) (Post : Value → World → Prop) : (World → Prop) → Type 1 where
 | ret {J : World → Prop} (v : Value) (h : ∀ W,J W → Post v W) : OT P w0 Post J
 | call {J : World → Prop} (f : FuncId) (args : Array Value) (v : Value) (ok : ∀ W,J W → Calls P f args W fun e W' => e = .returned v ∧ Ext W W') (r : OT P w0 Post J) : OT P w0 Post J
 | ins {J : World → Prop} (d : Tmp) (key : Sem Value) (v : Value) (ok : ∀ W,J W → key.run P W = .ok v W) (r : OT P w0 Post J) : OT P w0 Post J
 | hang {J : World → Prop} (f : FuncId) (args : Array Value) {α : Type} (val : α → Value) (R : α → World → Prop) (V : α → Nat → Prop)
   (ext : ∀ x W W',R x W → Ext W W' → R x W') (off : ∀ x W g o vs,R x W → ¬ V x g → R x (W.setCells g o vs))
   (ok : ∀ W,J W → Calls P f args W fun e W' => ∃ x,e = .returned (val x) ∧ Ext W W' ∧ R x W' ∧ ∀ g,V x g → (W.heap.size ≤ g ∨ g < w0.heap.size) ∧ g < W'.heap.size)
   (r : ∀ x,OT P w0 Post (fun W => J W ∧ R x W)) : OT P w0 Post J
 | cases {J : World → Prop} (p : Prop) (y : p → OT P w0 Post J) (n : ¬ p → OT P w0 Post J) : OT P w0 Post J
 | get {J : World → Prop} {α : Type} (p : α → Prop) (h : ∃ x,p x) (r : ∀ x,p x → OT P w0 Post J) : OT P w0 Post J
 | loop {J : World → Prop} (T : (Nat → Nat) → List (Nat × SV)) (M : (Nat → Nat) → List Blk) (μ : (Nat → Nat) → Nat) (H : (Nat → Nat) → Prop) (i : Nat → Nat) (h : H i) (body : ∀ i,H i → OT P w0 Post J) : OT P w0 Post J
 | loopG {J : World → Prop} {α : Type} (T : α → List (Nat × SV)) (M : α → List Blk) (μ : α → Nat) (H : α → Prop) (i : α) (h : H i) (t : List (Nat × SV)) (m : List Blk) (ht : T i = t ∧ M i = m) (body : ∀ i,H i → OT P w0 Post J) : OT P w0 Post J
 | nextG {J : World → Prop} (t : List (Nat × SV)) (m : List Blk) (c : Prop) (h : c) : OT P w0 Post J
 | unroll {J : World → Prop} (n : Nat) (r : OT P w0 Post J) : OT P w0 Post J
 | next {J : World → Prop} (i : Nat → Nat) (c : Prop) (h : c) : OT P w0 Post J
structure Sta (P : Program) (w0 : World) (Post : Value → World → Prop) (J : World → Prop) where
 n : Nat
 t : List (Nat × SV)
 z : Nat → Value
 m : List Blk
 x : Nat
 q : OT P w0 Post J
inductive Rsl where
 | bad
 | done
 | eq (l r : Fun2) (n : Rsl)
 | both (a b : Rsl)
 | peq (a b : Prop) (n : Rsl)
 | weq (a b : World → Prop) (n : Rsl)
 | br {α : Type} (n : α → Rsl)
inductive Lft where
 | bad
 | done
 | cons (l : Fun2) (n : Lft)
 | both (a b : Lft)
 | pc (a : Prop) (n : Lft)
 | wc (a : World → Prop) (n : Lft)
 | br {α : Type} (n : α → Lft)
def Rsl.left : Rsl → Lft
 | .bad => .bad
 | .done => .done
 | .eq l _ n => .cons l n.left
 | .both a b => .both a.left b.left
 | .peq a _ n => .pc a n.left
 | .weq a _ n => .wc a n.left
 | .br n => .br fun x => (n x).left
def Rsl.right : Rsl → Lft
 | .bad => .done
 | .done => .done
 | .eq _ r n => .cons r n.right
 | .both a b => .both a.right b.right
 | .peq _ b n => .pc b n.right
 | .weq _ b n => .wc b n.right
 | .br n => .br fun x => (n x).right
def OkR : Rsl → Prop
 | .bad => False
 | .done => True
 | .eq l r n => l = r ∧ OkR n
 | .both a b => OkR a ∧ OkR b
 | .peq a b n => a = b ∧ OkR n
 | .weq a b n => a = b ∧ OkR n
 | .br n => ∀ x,OkR (n x)
theorem zik : ∀ {r : Rsl},r.left = r.right → OkR r
 | .bad,h => by cases h
 | .done,_ => trivial
 | .eq l r n,h => by
  have h : Lft.cons l n.left = Lft.cons r n.right:=h
  injection h with h1 h2
  exact ⟨h1,zik h2⟩
 | .both a b,h => by
  have h : Lft.both a.left b.left = Lft.both a.right b.right:=h
  injection h with h1 h2
  exact ⟨zik h1,zik h2⟩
 | .peq a b n,h => by
  have h : Lft.pc a n.left = Lft.pc b n.right:=h
  injection h with h1 h2
  exact ⟨h1,zik h2⟩
 | .weq a b n,h => by
  have h : Lft.wc a n.left = Lft.wc b n.right:=h
  injection h with h1 h2
  exact ⟨h1,zik h2⟩
 | .br n,h => by
  have h : Lft.br (fun x => (n x).left) = Lft.br fun x => (n x).right:=h
  injection h with _ h2
  exact fun x => zik (congrFun h2 x)
def lookZ (z : Nat → Value) : List (Nat × SV) → Nat → SV
 | [],i => .v (z i)
 | (j,s) :: r,i => bif Nat.beq i j then s else lookZ z r i
theorem zgg {z : Nat → Value} {l : List (Nat × SV)} {j i : Nat} {x : SV} : lookZ z ((j,x) :: l) i = if i = j then x else lookZ z l i:=by
 show (bif Nat.beq i j then x else lookZ z l i) = _
 by_cases h : i = j
 ·
  subst h; simp
 ·
  have : Nat.beq i j = false:=by
   cases hb : Nat.beq i j with
   | false => rfl
   | true => exact absurd (Nat.eq_of_beq_eq_true hb) h
  rw [this,if_neg h]
  rfl
section
variable {P : Program} {w0 : World} {Post : Value → World → Prop} {J : World → Prop}
def stX (s : Sta P w0 Post J) : Operand → SV
 | .tmp i => lookZ s.z s.t i
 | .const v => .v v
 | .global g => .v (.pointer (some ⟨g,0,none⟩))
 | .func f => .v (.func (.func f) #[] #[])
def stR (s : Sta P w0 Post J) (o : Oper) : Fun2:=fun e W => (execOp (fun x => (stX s x).den e) o).run P W
def Sta.put (s : Sta P w0 Post J) (d : Option Tmp) (x : SV) (k : Sta P w0 Post J → Rsl) : Rsl :=
 match d with
 | none => k s
 | some i => bif Nat.blt i s.n then k { s with t:=(i,x) :: s.t } else .bad
def stWant (s : Sta P w0 Post J) (ops : List Oper) (o : Oper) : Option Bool :=
 match o.guard with
 | none => some true
 | some (k,b) =>
  match ops[k]? with
  | none => none
  | some o' => match o'.dst with
   | none => none
   | some d => match lookZ s.z s.t d with
    | .v (.bool c) => some (c == b)
    | _ => none
def stPure (s : Sta P w0 Post J) (o : Oper) (k : Sta P w0 Post J → Rsl) : Rsl :=
 .eq (stR s o) (fun _ W => .ok (.value (valOf (stR s o (fun _ => 0) w0))) W) (s.put o.dst (.v (valOf (stR s o (fun _ => 0) w0))) k)
def stPtr (s : Sta P w0 Post J) (o : Oper) (i : Nat) (k : Sta P w0 Post J → Rsl) : Rsl :=
 .eq (stR s o) (fun e W => .ok (.value ((SV.p i (offOf (stR s o (fun _ => 0) w0))).den e)) W) (s.put o.dst (.p i (offOf (stR s o (fun _ => 0) w0))) k)
def stLoad (s : Sta P w0 Post J) (o : Oper) (ty : TypeId) (i off : Nat) (k : Sta P w0 Post J → Rsl) : Rsl :=
 match s.m[i]?,P.underlying ty with
 | some b,some d =>
  bif isRowT d then
   match P.info? ty with
   | some inf => match toVals ((b.cs.drop off).take inf.size) with
    | some vs => bif Nat.beq vs.length inf.size then s.put o.dst (.v (.agg vs.toArray)) k else .bad
    | none => .bad
   | none => .bad
  else match b.cs[off]? with
   | some c => s.put o.dst c k
   | none => .bad
 | _,_ => .bad
def stIns (s : Sta P w0 Post J) (o : Oper) (k : Sta P w0 Post J → Rsl) (dflt : Rsl) : Rsl :=
 match s.q,o.dst with
 | .ins d key v _ r,some d' => bif Nat.beq d d' then
   .eq (stR s o) (fun _ W => (do pure (Next.value (← key)) : Sem Next).run P W) ({ s with q:=r }.put o.dst (.v v) k)
  else dflt
 | _,_ => dflt
def stCall (s : Sta P w0 Post J) (o : Oper) (k : Sta P w0 Post J → Rsl) : Rsl :=
 match s.q with
 | .call f args v _ r => .eq (stR s o) (fun _ W => .ok (.enter f args) W) ({ s with q:=r }.put o.dst (.v v) k)
 | _ => .bad
def stVal0 (s : Sta P w0 Post J) (o : Oper) (k : Sta P w0 Post J → Rsl) : Rsl :=
 match o.op with
 | .move x => s.put o.dst (stX s x) k
 | .assign x => s.put o.dst (stX s x) k
 | .pick c a b => match stX s c with
  | .v (.bool true) => s.put o.dst (stX s a) k
  | .v (.bool false) => s.put o.dst (stX s b) k
  | _ => .bad
 | .load ty x => match stX s x with
  | .p i off => stLoad s o ty i off k
  | .v _ => .bad
 | .fieldAddr _ x _ => match stX s x with
  | .p i _ => stPtr s o i k
  | .v _ => stPure s o k
 | .indexAddr _ x _ => match stX s x with
  | .p i _ => stPtr s o i k
  | .v _ => stPure s o k
 | .call c => match c.callee with
  | .builtin _ => stPure s o k
  | _ => stCall s o k
 | _ => stPure s o k
def stVal (s : Sta P w0 Post J) (o : Oper) (k : Sta P w0 Post J → Rsl) : Rsl:=stIns s o k (stVal0 s o k)
def stVals (ops : List Oper) : List Oper → Sta P w0 Post J → (Sta P w0 Post J → Rsl) → Rsl
 | [],s,k => k s
 | o :: l,s,k => match stWant s ops o with
  | some true => stVal s o fun s1 => stVals ops l s1 k
  | some false => s.put o.dst (.v undef) fun s1 => stVals ops l s1 k
  | none => .bad
structure Rl (s : Sta P w0 Post J) (a : Act) (e : Nat → Nat) (w : World) : Prop where
 size : a.tmps.size = s.n
 defers : a.defers = []
 slot : ∀ i,a.tmps.getD i undef = (lookZ s.z s.t i).den e
 blk : ∀ (i : Nat) b,s.m[i]? = some b → w.heap[e i]? = some (b.obj e)
 own : ∀ i,s.x ≤ i → i < s.m.length → w0.heap.size ≤ e i
 far : ∀ i j,s.x ≤ i → i < s.m.length → j < s.m.length → i ≠ j → e i ≠ e j
 ext : Ext w0 w
 jj : J w
 jx : ∀ W W',J W → Ext W W' → J W'
 jo : ∀ i,s.x ≤ i → i < s.m.length → ∀ W o vs,J W → J (W.setCells (e i) o vs)
 jf : ∀ g,w.heap.size ≤ g → ∀ W o vs,J W → J (W.setCells g o vs)
variable {s s' : Sta P w0 Post J} {a : Act} {e : Nat → Nat} {w w' : World} {o : Oper} {k : Sta P w0 Post J → Rsl}
theorem Rl.eval (h : Rl s a e w) : a.eval = fun x => (stX s x).den e:=by
 funext x
 cases x with
 | tmp i => exact h.slot i
 | const v => rfl
 | global g => rfl
 | func f => rfl
theorem Rl.exec (h : Rl s a e w) (o : Oper) (W : World) : (execOp a.eval o).run P W = stR s o e W:=by
 unfold stR
 rw [h.eval]
theorem Rl.more (h : Rl s a e w) (k : Ext w w') : Rl s a e w' :=
 ⟨h.size,h.defers,h.slot,fun i b hb => k.block (h.blk i b hb),h.own,h.far,h.ext.trans k,h.jx _ _ h.jj k,h.jx,h.jo,fun g hg => h.jf g (Nat.le_trans (Below.size k) hg)⟩
theorem Rl.q (h : Rl s a e w) (q : OT P w0 Post J) : Rl { s with q:=q } a e w :=
 ⟨h.size,h.defers,h.slot,h.blk,h.own,h.far,h.ext,h.jj,h.jx,h.jo,h.jf⟩
theorem Rl.put (h : Rl s a e w) {d : Option Tmp} {x : SV} {v : Value} (hk : OkR (s.put d x k)) (hv : x.den e = v) : ∃ s',OkR (k s') ∧ Rl s' (a.put d v) e w ∧ s'.m = s.m ∧ s'.x = s.x:=by
 subst hv
 cases d with
 | none => exact ⟨s,hk,h,rfl,rfl⟩
 | some i =>
  unfold Sta.put at hk
  simp only at hk
  cases hb : Nat.blt i s.n with
  | false => rw [hb] at hk; exact hk.elim
  | true =>
   rw [hb] at hk
   have hi : i < a.tmps.size:=by rw [h.size]; simpa using hb
   refine ⟨_,hk,⟨?_,h.defers,fun j => ?_,h.blk,h.own,h.far,h.ext,h.jj,h.jx,h.jo,h.jf⟩,rfl,rfl⟩
   ·
    show (a.tmps.setIfInBounds i _).size = _
    simpa using h.size
   ·
    show (a.tmps.setIfInBounds i _).getD j undef = (lookZ s.z ((i,x) :: s.t) j).den e
    rw [zgg]
    by_cases hj : j = i
    ·
     subst hj
     rw [if_pos rfl]
     simp [hi]
    ·
     rw [if_neg hj,← h.slot j]
     simp [Ne.symm hj]
theorem stval_sound (hk : OkR (stVal s o k)) (hR : Rl s a e w) : ∃ v s',Made P o v a w ∧ Rl s' (a.put o.dst v) e w ∧ OkR (k s'):=by
 have pure_ : OkR (stPure s o k) → ∃ v s',Made P o v a w ∧ Rl s' (a.put o.dst v) e w ∧ OkR (k s'):=fun ⟨h1,h2⟩ => by
  obtain ⟨s',h3,h4,_⟩:=hR.put h2 rfl
  exact ⟨_,s',zbi fun W _ => by rw [hR.exec]; exact congrFun (congrFun h1 e) W,h4,h3⟩
 have ptr_ : ∀ {i : Nat},OkR (stPtr s o i k) → ∃ v s',Made P o v a w ∧ Rl s' (a.put o.dst v) e w ∧ OkR (k s'):=fun {i} ⟨h1,h2⟩ => by
  obtain ⟨s',h3,h4,_⟩:=hR.put h2 rfl
  exact ⟨_,s',zbi fun W _ => by rw [hR.exec]; exact congrFun (congrFun h1 e) W,h4,h3⟩
 have slot_ : ∀ {x : Operand},OkR (s.put o.dst (stX s x) k) → (∀ W,(execOp a.eval o).run P W = .ok (.value (a.eval x)) W) → ∃ v s',Made P o v a w ∧ Rl s' (a.put o.dst v) e w ∧ OkR (k s'):=fun {x} h hx => by
  obtain ⟨s',h3,h4,_⟩:=hR.put h rfl
  refine ⟨_,s',zbi fun W _ => ?_,h4,h3⟩
  rw [hx W,hR.eval]
 have old : OkR (stVal0 s o k) → ∃ v s',Made P o v a w ∧ Rl s' (a.put o.dst v) e w ∧ OkR (k s'):=fun hk => by
  unfold stVal0 at hk
  split at hk
  ·
   rename_i x ho
   exact slot_ hk fun W => by unfold execOp; simp only [ho,Sem.run_pure]
  ·
   rename_i x ho
   exact slot_ hk fun W => by unfold execOp; simp only [ho,Sem.run_pure]
  ·
   rename_i c x y ho
   split at hk
   ·
    rename_i hc
    have hc' : a.eval c = .bool true:=by rw [hR.eval]; show (stX s c).den e = _; rw [hc]; rfl
    exact slot_ hk fun W => by unfold execOp; simp [ho,hc',asBool]
   ·
    rename_i hc
    have hc' : a.eval c = .bool false:=by rw [hR.eval]; show (stX s c).den e = _; rw [hc]; rfl
    exact slot_ hk fun W => by unfold execOp; simp [ho,hc',asBool]
   ·
    exact hk.elim
  ·
   rename_i ty x ho
   split at hk
   ·
    rename_i i off hx
    have hxa : a.eval x = .pointer (some ⟨e i,off,none⟩):=by rw [hR.eval]; show (stX s x).den e = _; rw [hx]; rfl
    unfold stLoad at hk
    split at hk
    ·
     rename_i b d hb hu
     cases hd : isRowT d with
     | true =>
      rw [hd] at hk
      simp only [cond_true] at hk
      split at hk
      ·
       rename_i inf hi
       split at hk
       ·
        rename_i vs hvs
        cases hl : Nat.beq vs.length inf.size with
        | false => rw [hl] at hk; exact hk.elim
        | true =>
         rw [hl] at hk
         have hlen:=Nat.eq_of_beq_eq_true hl
         obtain ⟨s',h3,h4,_⟩:=hR.put hk rfl
         refine ⟨.agg vs.toArray,s',?_,h4,h3⟩
         refine zbf (g:=e i) (off:=off) (C:=(b.cs.map (SV.den e)).toArray) (t:=b.ty) (fr:=(0,0)) ho hxa (hR.blk i b hb) ?_ hu ?_ (by rw [hi]; simp [hlen])
         ·
          rw [hlen]
          have:=zib (e:=e) hvs
          rw [← this,List.map_take,List.map_drop]
         ·
          cases d <;> simp_all [isRowT]
       ·
        exact hk.elim
      ·
       exact hk.elim
     | false =>
      rw [hd] at hk
      simp only [cond_false] at hk
      split at hk
      ·
       rename_i c hc
       obtain ⟨s',h3,h4,_⟩:=hR.put hk rfl
       exact ⟨c.den e,s',zim (g:=e i) (off:=off) (C:=(b.cs.map (SV.den e)).toArray) (t:=b.ty) (fr:=(0,0)) ho hxa (hR.blk i b hb) (by simp [hc]) (fun W => agg_no hu hd W),h4,h3⟩
      ·
       exact hk.elim
    ·
     exact hk.elim
   ·
    exact hk.elim
  ·
   split at hk
   ·
    exact ptr_ hk
   ·
    exact pure_ hk
  ·
   split at hk
   ·
    exact ptr_ hk
   ·
    exact pure_ hk
  ·
   split at hk
   ·
    exact pure_ hk
   ·
    unfold stCall at hk
    split at hk
    ·
     rename_i f args v ok r hq
     obtain ⟨h1,h2⟩:=hk
     obtain ⟨s',h3,h4,_⟩:=(hR.q r).put h2 rfl
     exact ⟨v,s',made_call (f:=f) (args:=args) (fun W => by rw [hR.exec]; exact congrFun (congrFun h1 e) W) (fun W hW => ok W (hR.jx _ _ hR.jj hW)),h4,h3⟩
    ·
     exact hk.elim
  ·
   exact pure_ hk
 unfold stVal stIns at hk
 split at hk
 ·
  rename_i d key v ok r d' hq hd
  cases hb : Nat.beq d d' with
  | false => rw [hb] at hk; exact old hk
  | true =>
   rw [hb] at hk
   obtain ⟨h1,h2⟩:=hk
   obtain ⟨s',h3,h4,_⟩:=(hR.q r).put h2 rfl
   refine ⟨v,s',zbi fun W hW => ?_,h4,h3⟩
   rw [hR.exec]
   refine (congrFun (congrFun h1 e) W).trans ?_
   simp only [Sem.run_bind,ok W (hR.jx _ _ hR.jj hW),Result.andThen_ok,Sem.run_pure]
 ·
  exact old hk
theorem zbx {ops : List Oper} {b : Bool} (h : stWant s ops o = some b) (hR : Rl s a e w) : Region.wanted o (yielded ops.toArray a.tmps) = b:=by
 unfold stWant at h
 unfold Region.wanted
 cases hg : o.guard with
 | none =>
  rw [hg] at h
  simpa using h
 | some kb =>
  obtain ⟨k,b'⟩:=kb
  rw [hg] at h
  simp only at h ⊢
  split at h
  ·
   cases h
  ·
   rename_i o' ho
   split at h
   ·
    cases h
   ·
    rename_i d hd
    split at h
    ·
     rename_i c hc
     have hs:=hR.slot d
     rw [hc] at hs
     have ht : a.tmps[d]? = some (.bool c):=by
      simp only [SV.den,Array.getD_eq_getD_getElem?] at hs
      cases hx : a.tmps[d]? with
      | none => rw [hx] at hs; simp [undef] at hs
      | some y => rw [hx] at hs; simpa using hs
     have hy : yielded ops.toArray a.tmps k = some c:=by
      unfold yielded
      simp [ho,hd,ht]
     rw [hy]
     have h : (c == b') = b:=by simpa using h
     rw [← h]
     cases c <;> cases b' <;> rfl
    ·
     cases h
theorem stvals_mk {ops : List Oper} {R : Act → Prop} : ∀ {l : List Oper} {s : Sta P w0 Post J} {a : Act},OkR (stVals ops l s k) → Rl s a e w → (∀ s' a',OkR (k s') → Rl s' a' e w → R a') → wpMk P ops.toArray w R l a
 | [],s,a,h,hR,hK => hK s a h hR
 | o :: l,s,a,h,hR,hK => by
  unfold stVals at h
  split at h
  ·
   rename_i hw
   obtain ⟨v,s1,hm,hR1,h1⟩:=stval_sound h hR
   exact ⟨v,.inl ⟨zbx hw hR,hm⟩,stvals_mk h1 hR1 hK⟩
  ·
   rename_i hw
   obtain ⟨s1,h1,hR1,_⟩:=hR.put h rfl
   exact ⟨undef,.inr ⟨zbx hw hR,rfl⟩,stvals_mk h1 hR1 hK⟩
  ·
   exact h.elim
end
section
variable {P : Program} {w0 : World} {Q : Exit → Act → World → Prop}
/-! ### memory -/
def cellsOf : SV → List SV
 | .v x => x.cells.toList.map .v
 | .p i o => [.p i o]
def okCell : SV → Bool
 | .v x => x.oneCell'
 | .p _ _ => true
def Sst.wf (s : Sst P w0) : Bool:=(s.t.all fun x => x.2.below s.m.length) && (s.m.all fun b => b.cs.all fun c => c.below s.m.length)
def Sst.new (s : Sst P w0) (o : Oper) (ty : TypeId) (cs : List Value) : Option (Sst P w0) :=
 bif s.wf && Nat.ble s.x s.m.length then
  ({ s with m:=s.m ++ [Blk.mk ty (cs.map SV.v)] }.log (evR s o) (fun _ W => .ok (.value (.pointer (some ⟨W.heap.size,0,none⟩))) (W.alloc (.cells cs.toArray ty)))).put o.dst (.p s.m.length 0)
 else none
def isMem (o : Oper) : Bool:=match o.op with
 | .alloc _ | .box _ _ | .store _ _ _ => true
 | _ => false
def isStore (o : Oper) : Bool:=match o.op with
 | .store _ _ _ => true
 | _ => false
theorem zhw {g k : Nat} (hne : k ≠ g) : ∀ (vs : List Value) (o : Nat) (w : World),(w.setCells g o vs).heap[k]? = w.heap[k]?
 | [],_,_ => rfl
 | _ :: r,o,_ => (zhw hne r (o + 1) _).trans (Below.heap_setCell _ _ _ _ hne)
theorem cells_ext {w : World} {g : Nat} : ∀ (vs : List Value) (o : Nat) {W : World},Ext w W → w.heap.size ≤ g → Ext w (W.setCells g o vs)
 | [],_,_,h,_ => h
 | v :: r,o,_,h,hg => cells_ext r (o + 1) (zae h hg v) hg
theorem row_of_blk {w : World} {g t : Nat} {C : Array Value} (h : w.heap[g]? = some (.cells C t (0,0))) : w.rowIs g t C.size (fun i => C.getD i undef) :=
 ⟨C,h,rfl,fun i hi => by simp [hi]⟩
theorem cells_on {w : World} {g t o : Nat} {C : List Value} {vs : List Value} (h : w.heap[g]? = some (.cells C.toArray t (0,0))) (ho : o + vs.length ≤ C.length) :
  (w.setCells g o vs).heap[g]? = some (.cells (C.take o ++ (vs ++ C.drop (o + vs.length))).toArray t (0,0)):=by
 rw [blkOf (zjm vs o w _ (row_of_blk h))]
 congr 2
 refine (zjx ?_ fun i hi => ?_).symm
 ·
  simp; omega
 ·
  have hi' : i < C.length:=by simpa using hi
  by_cases h1 : i < o
  ·
   rw [if_neg (by omega)]
   simp [h1,hi',List.getElem?_append]
   omega
  ·
   by_cases h2 : i < o + vs.length
   ·
    rw [if_pos ⟨by omega,h2⟩]
    have h3 : i - o < vs.length:=by omega
    simp [List.getElem?_append,h1,h3,List.getD_eq_getElem?_getD,show min o C.length = o by omega]
   ·
    rw [if_neg (by omega)]
    simp [List.getElem?_append,h1,hi',show min o C.length = o by omega,show ¬ i - o < vs.length by omega,List.getElem?_drop,show o + vs.length + (i - o - vs.length) = i by omega]
theorem there_blk {w : World} {g t o n : Nat} {C : Array Value} (h : w.heap[g]? = some (.cells C t (0,0))) (ho : o + n ≤ C.size) : w.there g o n:=fun j hj => by
 have r:=row_of_blk h
 exact ⟨by rw [r.cell (show o + j < C.size by omega)]; rfl,r.frozen _⟩
theorem cellsOf_den {e : Nat → Nat} : ∀ (x : SV),(cellsOf x).map (SV.den e) = (x.den e).cells.toList
 | .v x => by simp [cellsOf,SV.den,Function.comp_def]
 | .p i o => rfl
theorem okCell_den {e : Nat → Nat} : ∀ {x : SV},okCell x = true → (x.den e).oneCell' = true
 | .v _,h => h
 | .p _ _,_ => rfl
def upE (e : Nat → Nat) (k g : Nat) : Nat → Nat:=fun j => if j = k then g else e j
theorem obj_vals (e : Nat → Nat) (ty : TypeId) (cs : List Value) : (Blk.mk ty (cs.map SV.v)).obj e = .cells cs.toArray ty (0,0):=by
 unfold Blk.obj
 simp [Function.comp_def,SV.den]
/-! ### a region that draws its order: values in whatever order,then what can come but one by one -/
def isAlloc (o : Oper) : Bool:=match o.op with
 | .alloc _ => true
 | _ => false
def oneB (ops : List Oper) (n k : Nat) (listed : Array Bool) : Bool:=decide (Region.ready .any ops.toArray listed = [k]) && (match ops[k]? with
  | some o => Nat.ble n k || !isStore o
  | none => false)
def pairB (ops : List Oper) (k : Nat) (listed : Array Bool) : Bool :=
 decide (Region.ready .any ops.toArray listed = [k,k + 1]) && (decide (Region.ready .any ops.toArray (listed.setIfInBounds k true) = [k + 1]) && (decide (Region.ready .any ops.toArray (listed.setIfInBounds (k + 1) true) = [k]) &&
  (match ops[k]?,ops[k + 1]? with
  | some o,some o' => isAlloc o && (isAlloc o' && (o.guard.isNone && (o'.guard.isNone && (o.dst.isSome && decide (o.dst ≠ o'.dst)))))
  | _,_ => false)))
def tailB (ops : List Oper) (n : Nat) : Nat → Nat → Array Bool → Bool
 | 0,_,listed => decide (Region.ready .any ops.toArray listed = [])
 | 1,k,listed => oneB ops n k listed && decide (Region.ready .any ops.toArray (listed.setIfInBounds k true) = [])
 | f + 2,k,listed => (oneB ops n k listed && tailB ops n (f + 1) (k + 1) (listed.setIfInBounds k true)) || (pairB ops k listed && tailB ops n f (k + 2) ((listed.setIfInBounds k true).setIfInBounds (k + 1) true))
theorem zjy {ops l : List Oper} {k : Nat} {o : Oper} (hd : ops.drop k = o :: l) : ops[k]? = some o ∧ ops.drop (k + 1) = l:=by
 have h1:=congrArg (fun x => x[0]?) hd
 have h2:=congrArg (fun x => x.drop 1) hd
 exact ⟨by simpa using h1,by simpa [List.drop_drop] using h2⟩
/-! ### code -/
inductive Xt where
 | normal
 | exit (id : Nat)
 | ret
def Xt.to : Xt → Exit
 | .normal => .normal
 | .exit id => .exit id
 | .ret => .ret
end
theorem size_cells (g : Nat) : ∀ (vs : List Value) (o : Nat) (w : World),(w.setCells g o vs).heap.size = w.heap.size
 | [],_,_ => rfl
 | v :: r,o,w => by rw [World.setCells,size_cells g r]; simp
section
variable {P : Program} {w0 : World} {Post : Value → World → Prop} {J : World → Prop} {Q : Exit → Act → World → Prop}
def Sta.wf (s : Sta P w0 Post J) : Bool:=(s.t.all fun x => x.2.below s.m.length) && (s.m.all fun b => b.cs.all fun c => c.below s.m.length)
def Sta.new (s : Sta P w0 Post J) (o : Oper) (ty : TypeId) (cs : List Value) (k : Sta P w0 Post J → Rsl) : Rsl :=
 bif s.wf then
  .eq (stR s o) (fun _ W => .ok (.value (.pointer (some ⟨W.heap.size,0,none⟩))) (W.alloc (.cells cs.toArray ty)))
   ({ s with m:=s.m ++ [Blk.mk ty (cs.map SV.v)] }.put o.dst (.p s.m.length 0) k)
 else .bad
def stMem (s : Sta P w0 Post J) (o : Oper) (k : Sta P w0 Post J → Rsl) : Rsl :=
 match o.op with
 | .alloc ty => match P.info? ty with
  | some inf => match inf.zero with
   | some z => s.new o ty z.cells.toList k
   | none => .bad
  | none => .bad
 | .box ty x => match stX s x with
  | .v val => s.new o ty val.cells.toList k
  | .p _ _ => .bad
 | .store ty x y => match stX s x with
  | .p i off => match s.m[i]?,P.info? ty with
   | some b,some inf =>
    bif Nat.ble s.x i && (Nat.beq (cellsOf (stX s y)).length inf.size && (Nat.ble (off + (cellsOf (stX s y)).length) b.cs.length && (cellsOf (stX s y)).all okCell)) then
     { s with m:=s.m.set i ⟨b.ty,b.cs.take off ++ (cellsOf (stX s y) ++ b.cs.drop (off + (cellsOf (stX s y)).length))⟩ }.put o.dst (.v undef) k
    else .bad
   | _,_ => .bad
  | .v _ => .bad
 | _ => .bad
def stStep (s : Sta P w0 Post J) (o : Oper) (k : Sta P w0 Post J → Rsl) : Rsl:=bif isMem o then stMem s o k else stVal s o k
def stOps (ops : List Oper) : List Oper → Sta P w0 Post J → (Sta P w0 Post J → Rsl) → Rsl
 | [],s,k => k s
 | o :: l,s,k => match stWant s ops o with
  | some true => stStep s o fun s1 => stOps ops l s1 k
  | some false => s.put o.dst (.v undef) fun s1 => stOps ops l s1 k
  | none => .bad
variable {s : Sta P w0 Post J} {a : Act} {e : Nat → Nat} {w : World} {o : Oper} {k : Sta P w0 Post J → Rsl}
theorem lookZ_below {z : Nat → Value} {n : Nat} : ∀ {l : List (Nat × SV)} {i : Nat},(∀ x ∈ l,x.2.below n = true) → (lookZ z l i).below n = true
 | [],_,_ => rfl
 | x :: r,i,h => by
  show (lookZ z ((x.1,x.2) :: r) i).below _ = true
  rw [zgg]
  split
  ·
   exact h _ List.mem_cons_self
  ·
   exact lookZ_below fun y hy => h y (List.mem_cons_of_mem _ hy)
theorem Rl.lt (hR : Rl s a e w) {i : Nat} (hi : i < s.m.length) : e i < w.heap.size:=(Array.getElem?_eq_some_iff.1 (hR.blk i _ (List.getElem?_eq_getElem hi))).1
theorem rl_add {g : Nat} {b : Blk} (hR : Rl s a e w) (hwf : s.wf = true) (hg : w.heap[g]? = some (b.obj (upE e s.m.length g))) (ho : w0.heap.size ≤ g) (hne : ∀ i,i < s.m.length → e i ≠ g) (hj : ∀ W o vs,J W → J (W.setCells g o vs)) :
  Rl { s with m:=s.m ++ [b] } a (upE e s.m.length g) w:=by
 unfold Sta.wf at hwf
 rw [Bool.and_eq_true,List.all_eq_true,List.all_eq_true] at hwf
 have hlow : ∀ i,i < s.m.length → upE e s.m.length g i = e i:=fun i hi => if_neg (by omega)
 have hnew : upE e s.m.length g s.m.length = g:=if_pos rfl
 refine ⟨hR.size,hR.defers,fun i => ?_,fun i b' hb => ?_,fun i h1 h2 => ?_,fun i j h1 h2 h3 h4 => ?_,hR.ext,hR.jj,hR.jx,fun i h1 h2 => ?_,hR.jf⟩
 ·
  rw [hR.slot i]
  exact (den_env hlow (lookZ_below hwf.1)).symm
 ·
  have hb : (s.m ++ [b])[i]? = some b':=hb
  by_cases hi : i < s.m.length
  ·
   rw [List.getElem?_append_left hi] at hb
   rw [hlow i hi,hR.blk i b' hb]
   unfold Blk.obj
   congr 3
   refine List.map_congr_left fun c hc => ?_
   have:=List.all_eq_true.1 (hwf.2 b' (List.mem_of_getElem? hb)) c hc
   exact (den_env hlow this).symm
  ·
   rw [List.getElem?_append_right (by omega)] at hb
   have hi0 : i - s.m.length = 0:=by
    have:=(List.getElem?_eq_some_iff.1 hb).1
    simpa using this
   rw [hi0] at hb
   obtain rfl : b = b':=by simpa using hb
   obtain rfl : i = s.m.length:=by omega
   rw [hnew]
   exact hg
 ·
  have h2 : i < s.m.length + 1:=by simpa using h2
  by_cases hi : i < s.m.length
  ·
   rw [hlow i hi]; exact hR.own i h1 hi
  ·
   obtain rfl : i = s.m.length:=by omega
   rw [hnew]; exact ho
 ·
  have h2 : i < s.m.length + 1:=by simpa using h2
  have h3 : j < s.m.length + 1:=by simpa using h3
  by_cases hi : i < s.m.length
  ·
   by_cases hj : j < s.m.length
   ·
    rw [hlow i hi,hlow j hj]; exact hR.far i j h1 hi hj h4
   ·
    obtain rfl : j = s.m.length:=by omega
    rw [hlow i hi,hnew]
    exact hne i hi
  ·
   obtain rfl : i = s.m.length:=by omega
   have hj : j < s.m.length:=by omega
   rw [hlow j hj,hnew]
   exact (hne j hj).symm
 ·
  have h2 : i < s.m.length + 1:=by simpa using h2
  by_cases hi : i < s.m.length
  ·
   rw [hlow i hi]; exact hR.jo i h1 hi
  ·
   obtain rfl : i = s.m.length:=by omega
   rw [hnew]; exact hj
theorem zfj {ty : TypeId} {cs : List Value} (hk : OkR (s.new o ty cs k)) : s.wf = true ∧ stR s o = (fun _ W => .ok (.value (.pointer (some ⟨W.heap.size,0,none⟩))) (W.alloc (.cells cs.toArray ty))) ∧ OkR ({ s with m:=s.m ++ [Blk.mk ty (cs.map SV.v)] }.put o.dst (.p s.m.length 0) k):=by
 unfold Sta.new at hk
 cases hw : s.wf with
 | false => rw [hw] at hk; exact hk.elim
 | true =>
  rw [hw] at hk
  exact ⟨rfl,hk.1,hk.2⟩
theorem zhh {ty : TypeId} {cs : List Value} (hk : OkR (s.new o ty cs k)) {g : Nat} (hR : Rl s a e w) (hg : w.heap[g]? = some (.cells cs.toArray ty (0,0))) (ho : w0.heap.size ≤ g) (hne : ∀ i,i < s.m.length → e i ≠ g) (hj : ∀ W o vs,J W → J (W.setCells g o vs)) :
  ∃ s' : Sta P w0 Post J,OkR (k s') ∧ Rl s' (a.put o.dst (.pointer (some ⟨g,0,none⟩))) (upE e s.m.length g) w ∧ s'.m = s.m ++ [Blk.mk ty (cs.map SV.v)]:=by
 obtain ⟨hwf,_,hp⟩:=zfj hk
 have h:=rl_add (b:=Blk.mk ty (cs.map SV.v)) hR hwf (by rw [obj_vals]; exact hg) ho hne hj
 obtain ⟨s',h1,h2,h3,_⟩:=h.put (x:=.p s.m.length 0) (v:=.pointer (some ⟨g,0,none⟩)) hp (by show Value.pointer (some ⟨upE e s.m.length g s.m.length,0,none⟩) = _; rw [show upE e s.m.length g s.m.length = g from if_pos rfl])
 exact ⟨s',h1,h2,h3⟩
theorem stnew_sound {ty : TypeId} {cs : List Value} (hk : OkR (s.new o ty cs k)) (hR : Rl s a e w) {K : Act → World → Prop} (hK : ∀ s' a' e' w',OkR (k s') → Rl s' a' e' w' → Ext w w' → K a' w') : o.wp P a w K Q:=by
 obtain ⟨_,h1,_⟩:=zfj hk
 have hrun:=congrFun (congrFun h1 e) w
 unfold Oper.wp
 rw [hR.exec,hrun,Oper.upon_value]
 have hE:=Ext.alloc w (.cells cs.toArray ty)
 obtain ⟨s',h2,h3,_⟩:=zhh hk (hR.more hE) (zab _ _) (Below.size hR.ext) (fun i hi => by have:=hR.lt hi; omega) (hR.jf _ (Nat.le_refl _))
 exact hK s' _ _ _ h2 h3 hE
theorem stmem_sound (hk : OkR (stMem s o k)) (hR : Rl s a e w) {K : Act → World → Prop} (hK : ∀ s' a' e' w',OkR (k s') → Rl s' a' e' w' → (isStore o = false → Ext w w') → K a' w') : o.wp P a w K Q:=by
 unfold stMem at hk
 split at hk
 ·
  split at hk
  ·
   split at hk
   ·
    exact stnew_sound hk hR fun s' a' e' w' h1 h2 h3 => hK s' a' e' w' h1 h2 fun _ => h3
   ·
    exact hk.elim
  ·
   exact hk.elim
 ·
  split at hk
  ·
   exact stnew_sound hk hR fun s' a' e' w' h1 h2 h3 => hK s' a' e' w' h1 h2 fun _ => h3
  ·
   exact hk.elim
 ·
  rename_i ty x y ho
  split at hk
  ·
   rename_i i off hx
   split at hk
   ·
    rename_i b inf hb hi
    obtain ⟨cs,hcs⟩ : ∃ cs,cs = cellsOf (stX s y):=⟨_,rfl⟩
    rw [← hcs] at hk
    cases hc : (Nat.ble s.x i && (Nat.beq cs.length inf.size && (Nat.ble (off + cs.length) b.cs.length && cs.all okCell))) with
    | false => rw [hc] at hk; exact hk.elim
    | true =>
     rw [hc] at hk
     simp only [cond_true] at hk
     simp only [Bool.and_eq_true] at hc
     obtain ⟨c1,c2,c3,c4⟩:=hc
     have c1:=Nat.le_of_ble_eq_true c1
     have c2:=Nat.eq_of_beq_eq_true c2
     have c3:=Nat.le_of_ble_eq_true c3
     have hst : isStore o = true:=by unfold isStore; rw [ho]
     have hblk:=hR.blk i b hb
     have hil : i < s.m.length:=(List.getElem?_eq_some_iff.1 hb).1
     have hden:=cellsOf_den (e:=e) (stX s y)
     rw [← hcs] at hden
     have hlen : ((stX s y).den e).cells.size = cs.length:=by
      have:=congrArg List.length hden
      simpa using this.symm
     have hrun:=run_storeAt_mid (P:=P) w (e i) off ty ((stX s y).den e).cells (there_blk hblk (by rw [hlen]; simpa using c3)) (by rw [hi,hlen,c2]; rfl) (by
      rw [← Array.all_toList,← hden,List.all_map]
      exact List.all_eq_true.2 fun c hc => okCell_den (List.all_eq_true.1 c4 c hc))
     have hrun2 : (execOp a.eval o).run P w = .ok .skip (w.setCells (e i) off ((stX s y).den e).cells.toList):=by
      have hxa : a.eval x = .pointer (some ⟨e i,off,none⟩):=by rw [hR.eval]; show (stX s x).den e = _; rw [hx]; rfl
      have hya : a.eval y = (stX s y).den e:=by rw [hR.eval]
      unfold execOp
      simp only [ho,hxa,hya,Sem.run_bind]
      rw [show Instr.storeAt ty (.pointer (some ⟨e i,off,none⟩)) ((stX s y).den e) = Instr.storeAt ty (.pointer (some ⟨e i,off,none⟩)) (.agg ((stX s y).den e).cells) from rfl,hrun]
      simp
     unfold Oper.wp
     rw [hrun2,Oper.upon_skip]
     rw [← hden]
     have hown:=hR.own i c1 hil
     have hsize : w.heap.size ≤ (w.setCells (e i) off (cs.map (SV.den e))).heap.size:=Nat.le_of_eq (size_cells _ _ _ _).symm
     have hR2 : Rl { s with m:=s.m.set i ⟨b.ty,b.cs.take off ++ (cs ++ b.cs.drop (off + cs.length))⟩ } a e (w.setCells (e i) off (cs.map (SV.den e))):=by
      refine ⟨hR.size,hR.defers,hR.slot,fun j b' hb' => ?_,fun j h1 h2 => hR.own j h1 (by simpa using h2),fun j k h1 h2 h3 h4 => hR.far j k h1 (by simpa using h2) (by simpa using h3) h4,cells_ext _ _ hR.ext hown,hR.jo i c1 hil _ _ _ hR.jj,hR.jx,fun j h1 h2 => hR.jo j h1 (by simpa using h2),fun g hg => hR.jf g (Nat.le_trans hsize hg)⟩
      have hb' : (s.m.set i ⟨b.ty,b.cs.take off ++ (cs ++ b.cs.drop (off + cs.length))⟩)[j]? = some b':=hb'
      by_cases hj : j = i
      ·
       subst hj
       rw [List.getElem?_set_self hil] at hb'
       obtain rfl:=Option.some.inj hb'
       unfold Blk.obj at hblk ⊢
       rw [cells_on hblk (by simpa using c3)]
       simp only [List.map_append,List.map_take,List.map_drop,List.length_map]
      ·
       rw [List.getElem?_set_ne (Ne.symm hj)] at hb'
       have hjl : j < s.m.length:=(List.getElem?_eq_some_iff.1 hb').1
       rw [zhw (fun h => hR.far i j c1 hil hjl (Ne.symm hj) h.symm)]
       exact hR.blk j b' hb'
     obtain ⟨s',h1,h2,_⟩:=hR2.put hk rfl
     exact hK s' _ e _ h1 h2 fun h => by rw [hst] at h; cases h
   ·
    exact hk.elim
  ·
   exact hk.elim
 ·
  exact hk.elim
theorem zef (hk : OkR (stStep s o k)) (hR : Rl s a e w) {K : Act → World → Prop} (hK : ∀ s' a' e' w',OkR (k s') → Rl s' a' e' w' → (isStore o = false → Ext w w') → K a' w') : o.wp P a w K Q:=by
 unfold stStep at hk
 cases hm : isMem o with
 | true =>
  rw [hm] at hk
  exact stmem_sound hk hR hK
 | false =>
  rw [hm] at hk
  obtain ⟨v,s',hmd,hR1,h1⟩:=stval_sound hk hR
  exact hmd.wp (Ext.refl w) fun W' hW' => hK s' _ e W' h1 (hR1.more hW') fun _ => hW'
theorem stalloc_cut (ha : isAlloc o = true) (hk : OkR (stStep s o k)) : ∃ ty cs,o.op = .alloc ty ∧ OkR (s.new o ty cs k):=by
 unfold isAlloc at ha
 split at ha
 ·
  rename_i ty ho
  have hm : isMem o = true:=by unfold isMem; rw [ho]
  unfold stStep at hk
  rw [hm] at hk
  simp only [cond_true] at hk
  unfold stMem at hk
  rw [ho] at hk
  simp only at hk
  split at hk
  ·
   split at hk
   ·
    exact ⟨ty,_,ho,hk⟩
   ·
    exact hk.elim
  ·
   exact hk.elim
 ·
  cases ha
theorem zga {ty : TypeId} {cs : List Value} (ho : o.op = .alloc ty) (hk : OkR (s.new o ty cs k)) {a : Act} {W : World} {K : Act → World → Prop} (h : K (a.put o.dst (.pointer (some ⟨W.heap.size,0,none⟩))) (W.alloc (.cells cs.toArray ty))) : o.wp P a W K Q:=by
 obtain ⟨_,h1,_⟩:=zfj hk
 have hrun:=congrFun (congrFun h1 fun _ => 0) W
 have e : execOp a.eval o = execOp (fun x => (stX s x).den fun _ => 0) o:=by
  unfold execOp
  simp only [ho]
 unfold Oper.wp
 rw [e,show (execOp (fun x => (stX s x).den fun _ => 0) o).run P W = _ from hrun,Oper.upon_value]
 exact h
theorem stone_wp {ops : List Oper} {n i : Nat} {listed : Array Bool} {l : List Oper} (ho : ops[i]? = some o) (hB : oneB ops n i listed = true) (h : OkR (stOps ops (o :: l) s k)) (hR : Rl s a e w)
  (hnext : ∀ {s1 : Sta P w0 Post J} {a' e' w'},OkR (stOps ops l s1 k) → Rl s1 a' e' w' → wpG P .any ops.toArray Q n l.length (listed.setIfInBounds i true) a' w') : wpG P .any ops.toArray Q n (o :: l).length listed a w:=by
 unfold oneB at hB
 rw [ho] at hB
 simp only [Bool.and_eq_true,decide_eq_true_eq] at hB
 obtain ⟨hr,hn⟩:=hB
 refine ⟨fun h0 => (by rw [hr] at h0; cases h0),fun j hj W hW => ?_⟩
 rw [hr] at hj
 obtain rfl : j = i:=by simpa using hj
 have hRW:=hR.more hW
 have hkeep : j < n → isStore o = false:=fun hlt => by
  cases hs : isStore o with
  | false => rfl
  | true =>
   rw [hs] at hn
   have : n ≤ j:=by simpa using hn
   omega
 unfold stOps at h
 refine wpOp_step (by simpa using ho) fun K hK' => ?_
 split at h
 ·
  rename_i hw
  rw [if_pos (zbx hw hRW)]
  exact zef h hRW fun s' a' e' w' h0 h1 h2 => hK' _ _ ⟨fun hlt => h2 (hkeep hlt),hnext h0 h1⟩
 ·
  rename_i hw
  rw [if_neg (by rw [zbx hw hRW]; exact Bool.false_ne_true)]
  obtain ⟨s',h1,h2,_⟩:=hRW.put h rfl
  exact hK' _ _ ⟨fun _ => Ext.refl _,hnext h1 h2⟩
 ·
  exact h.elim
theorem stplain {ops : List Oper} {l : List Oper} (hg : o.guard.isNone = true) (h : OkR (stOps ops (o :: l) s k)) : OkR (stStep s o fun s1 => stOps ops l s1 k):=by
 unfold stOps at h
 have hw : stWant s ops o = some true:=by
  unfold stWant
  rw [Option.isNone_iff_eq_none.1 hg]
 rw [hw] at h
 exact h
theorem zhg {ops : List Oper} {n : Nat} : ∀ {l : List Oper} {i : Nat} {listed : Array Bool} {s : Sta P w0 Post J} {a : Act} {e : Nat → Nat} {w : World},ops.drop i = l → tailB ops n l.length i listed = true → OkR (stOps ops l s k) → Rl s a e w →
  (∀ s' a' e' w',OkR (k s') → Rl s' a' e' w' → Q .normal a' w') → wpG P .any ops.toArray Q n l.length listed a w
 | [],i,listed,s,a,e,w,_,hB,h,hR,hK => ⟨of_decide_eq_true hB,fun W hW => hK s a e W h (hR.more hW)⟩
 | [o],i,listed,s,a,e,w,hd,hB,h,hR,hK => by
  have hB : (oneB ops n i listed && decide (Region.ready .any ops.toArray (listed.setIfInBounds i true) = [])) = true:=hB
  rw [Bool.and_eq_true] at hB
  exact stone_wp (zjy hd).1 hB.1 h hR fun h1 hR1 => zhg (l:=[]) (zjy hd).2 hB.2 h1 hR1 hK
 | o :: o' :: l,i,listed,s,a,e,w,hd,hB,h,hR,hK => by
  have hB : ((oneB ops n i listed && tailB ops n (l.length + 1) (i + 1) (listed.setIfInBounds i true)) || (pairB ops i listed && tailB ops n l.length (i + 2) ((listed.setIfInBounds i true).setIfInBounds (i + 1) true))) = true:=hB
  obtain ⟨ho,hd'⟩:=zjy hd
  obtain ⟨ho',hd''⟩:=zjy hd'
  rw [Bool.or_eq_true,Bool.and_eq_true,Bool.and_eq_true] at hB
  rcases hB with ⟨h1,h2⟩ | ⟨h1,h2⟩
  ·
   exact stone_wp ho h1 h hR fun h3 hR1 => zhg (l:=o' :: l) hd' h2 h3 hR1 hK
  ·
   unfold pairB at h1
   rw [ho,ho'] at h1
   simp only [Bool.and_eq_true,decide_eq_true_eq] at h1
   obtain ⟨r1,r2,r3,ha,ha',hg,hg',_,hne⟩:=h1
   have h:=stplain hg h
   obtain ⟨ty,cs,hty,hn1⟩:=stalloc_cut ha h
   -- the second one,behind the first wherever that lies
   have hsec : ∀ {s1 : Sta P w0 Post J},OkR (stOps ops (o' :: l) s1 k) → ∃ ty' cs',o'.op = .alloc ty' ∧ OkR (s1.new o' ty' cs' fun s2 => stOps ops l s2 k):=fun hh => by
    obtain ⟨ty',cs',h1,h2⟩:=stalloc_cut ha' (stplain hg' hh)
    exact ⟨ty',cs',h1,h2⟩
   have hw0:=Below.size hR.ext
   -- what it makes hangs on its type alone
   obtain ⟨s1,hk1,_,hm1⟩:=zhh (g:=w.heap.size) hn1 (hR.more (Ext.alloc w (.cells cs.toArray ty))) (zab _ _) hw0 (fun i hi => by have:=hR.lt hi; omega) (hR.jf _ (Nat.le_refl _))
   obtain ⟨ty',cs',hty',hn2⟩:=hsec hk1
   have fin : ∀ {g g' : Nat} {W : World},Ext w W → W.heap[g]? = some (.cells cs.toArray ty (0,0)) → W.heap[g']? = some (.cells cs'.toArray ty' (0,0)) → w.heap.size ≤ g → w.heap.size ≤ g' → g ≠ g' →
     wpG P .any ops.toArray Q n l.length ((listed.setIfInBounds i true).setIfInBounds (i + 1) true) ((a.put o.dst (.pointer (some ⟨g,0,none⟩))).put o'.dst (.pointer (some ⟨g',0,none⟩))) W:=fun {g g' W} hW b1 b2 g1 g2 gn => by
    obtain ⟨s2,hk2,R1,hm2⟩:=zhh (g:=g) hn1 (hR.more hW) b1 (Nat.le_trans hw0 g1) (fun i hi => by have:=hR.lt hi; omega) (hR.jf _ g1)
    obtain ⟨ty2,cs2,hty2,hn3⟩:=hsec hk2
    obtain rfl : ty' = ty2:=by rw [hty'] at hty2; injection hty2
    have hcs : cs'.toArray = cs2.toArray:=by
     have e1:=congrFun (congrFun (zfj hn2).2.1 fun _ => 0) w
     have e2:=congrFun (congrFun (zfj hn3).2.1 fun _ => 0) w
     have e3 : stR s1 o' (fun _ => 0) w = stR s2 o' (fun _ => 0) w:=by
      unfold stR execOp
      simp only [hty']
     rw [e1,e2] at e3
     injection e3 with _ e4
     have:=congrArg (fun W => W.heap[w.heap.size]?) e4
     rw [zab,zab] at this
     injection this with this
     injection this
    obtain ⟨s3,hk3,R2,_⟩:=zhh (g:=g') hn3 R1 (by rw [← hcs]; exact b2) (Nat.le_trans hw0 g2) (fun i hi => by
     rw [hm2,List.length_append] at hi
     unfold upE
     by_cases hil : i = s.m.length
     ·
      rw [if_pos hil]; exact gn
     ·
      rw [if_neg hil]
      have:=hR.lt (show i < s.m.length by simp only [List.length_cons,List.length_nil] at hi; omega)
      omega) (hR.jf _ g2)
    exact zhg hd'' h2 hk3 R2 hK
   refine ⟨fun h0 => (by rw [r1] at h0; cases h0),fun j hj W hW => ?_⟩
   rw [r1] at hj
   have hi2 : j = i ∨ j = i + 1:=by simpa using hj
   rcases hi2 with rfl | rfl
   ·
    refine zbd (by simpa using ho) (Option.isNone_iff_eq_none.1 hg) (zga hty hn1 ⟨fun _ => Ext.alloc _ _,?_⟩)
    refine ⟨fun h0 => (by rw [r2] at h0; cases h0),fun i hi W1 hW1 => ?_⟩
    rw [r2] at hi
    obtain rfl : i = j + 1:=by simpa using hi
    refine zbd (by simpa using ho') (Option.isNone_iff_eq_none.1 hg') (zga hty' hn2 ⟨fun _ => Ext.alloc _ _,?_⟩)
    have z1:=Below.size hW
    have z2:=Below.size hW1
    simp only [World.size_alloc] at z2
    exact fin ((hW.trans (Ext.alloc _ _)).trans (hW1.trans (Ext.alloc _ _))) ((hW1.trans (Ext.alloc _ _)).block (zab _ _)) (zab _ _) z1 (by omega) (by omega)
   ·
    refine zbd (by simpa using ho') (Option.isNone_iff_eq_none.1 hg') (zga hty' hn2 ⟨fun _ => Ext.alloc _ _,?_⟩)
    refine ⟨fun h0 => (by rw [r3] at h0; cases h0),fun j hj W1 hW1 => ?_⟩
    rw [r3] at hj
    obtain rfl : j = i:=by simpa using hj
    refine zbd (by simpa using ho) (Option.isNone_iff_eq_none.1 hg) (zga hty hn1 ⟨fun _ => Ext.alloc _ _,?_⟩)
    have z1:=Below.size hW
    have z2:=Below.size hW1
    simp only [World.size_alloc] at z2
    rw [Array.setIfInBounds_comm _ _ (by omega),Act.put_comm a _ _ (fun d h0 h1 => hne (by rw [h0,h1]))]
    exact fin ((hW.trans (Ext.alloc _ _)).trans (hW1.trans (Ext.alloc _ _))) (zab _ _) ((hW1.trans (Ext.alloc _ _)).block (zab _ _)) (by omega) z1 (by omega)
def allR : List Rsl → Rsl
 | [] => .bad
 | [a] => a
 | a :: l => .both a (allR l)
theorem allR_of : ∀ {l : List Rsl},OkR (allR l) → ∀ r ∈ l,OkR r
 | [],h,_,_ => h.elim
 | [a],h,r,hr => by
  obtain rfl : r = a:=by simpa using hr
  exact h
 | a :: b :: l,h,r,hr => by
  rcases List.mem_cons.1 hr with rfl | hr
  ·
   exact h.1
  ·
   exact allR_of h.2 r hr
theorem allR_ne : ∀ {l : List Rsl},OkR (allR l) → l ≠ []
 | [],h,_ => h.elim
def stTree (ops : List Oper) (n : Nat) : Nat → Array Bool → Sta P w0 Post J → (Sta P w0 Post J → Rsl) → Rsl
 | 0,listed,s,k => bif decide (Region.ready .any ops.toArray listed = []) then k s else .bad
 | f + 1,listed,s,k => allR ((Region.ready .any ops.toArray listed).map fun i => match ops[i]? with
   | some o => bif Nat.ble n i || !isStore o then (match stWant s ops o with
    | some true => stStep s o fun s1 => stTree ops n f (listed.setIfInBounds i true) s1 k
    | some false => s.put o.dst (.v undef) fun s1 => stTree ops n f (listed.setIfInBounds i true) s1 k
    | none => .bad) else .bad
   | none => .bad)
theorem zhf {ops : List Oper} {n : Nat} : ∀ {f : Nat} {listed : Array Bool} {s : Sta P w0 Post J} {a : Act} {e : Nat → Nat} {w : World},OkR (stTree ops n f listed s k) → Rl s a e w →
  (∀ s' a' e' w',OkR (k s') → Rl s' a' e' w' → Q .normal a' w') → wpG P .any ops.toArray Q n f listed a w
 | 0,listed,s,a,e,w,h,hR,hK => by
  unfold stTree at h
  cases hc : decide (Region.ready .any ops.toArray listed = []) with
  | false => rw [hc] at h; exact h.elim
  | true => rw [hc] at h; exact ⟨of_decide_eq_true hc,fun W hW => hK s a e W h (hR.more hW)⟩
 | f + 1,listed,s,a,e,w,h,hR,hK => by
  unfold stTree at h
  refine ⟨fun h0 => (allR_ne h (by rw [h0]; rfl)).elim,fun i hi W hW => ?_⟩
  have h:=allR_of h _ (List.mem_map_of_mem hi)
  have hRW:=hR.more hW
  split at h
  ·
   rename_i o ho
   cases hn : (Nat.ble n i || !isStore o) with
   | false => rw [hn] at h; exact h.elim
   | true =>
    rw [hn] at h
    have hkeep : i < n → isStore o = false:=fun hlt => by
     cases hs : isStore o with
     | false => rfl
     | true =>
      rw [hs] at hn
      have : n ≤ i:=by simpa using hn
      omega
    refine wpOp_step (by simpa using ho) fun K hK' => ?_
    simp only [cond_true] at h
    split at h
    ·
     rename_i hw
     rw [if_pos (zbx hw hRW)]
     exact zef h hRW fun s' a' e' w' h0 h1 h2 => hK' _ _ ⟨fun hlt => h2 (hkeep hlt),zhf h0 h1 hK⟩
    ·
     rename_i hw
     rw [if_neg (by rw [zbx hw hRW]; exact Bool.false_ne_true)]
     obtain ⟨s',h1,h2,_⟩:=hRW.put h rfl
     exact hK' _ _ ⟨fun _ => Ext.refl _,zhf h1 h2 hK⟩
    ·
     exact h.elim
  ·
   exact h.elim
def findM (ops : List Oper) (n : Nat) : Nat → Nat
 | 0 => 0
 | k + 1 => bif madeB ops (k + 1) n then k + 1 else findM ops n k
def stDraw (ops : List Oper) (s : Sta P w0 Post J) (k : Sta P w0 Post J → Rsl) : Rsl :=
 let n:=(ops.takeWhile fun o => !isStore o).length
 let m:=findM ops n (ops.takeWhile fun o => !isMem o).length
 bif P.follows .mixedOrders && madeB ops m n then
  stVals ops (ops.take m) s fun s1 => bif tailB ops n (ops.drop m).length m (marked m 0 (Array.replicate ops.length false)) then stOps ops (ops.drop m) s1 k
   else stTree ops n (ops.drop m).length (marked m 0 (Array.replicate ops.length false)) s1 k
 else bif P.follows .mixedOrders then stTree ops n ops.length (Array.replicate ops.length false) s k else .bad
theorem stdraw_wp {id : Nat} {ops : List Oper} (h : OkR (stDraw ops s k)) (hR : Rl s a e w) (hK : ∀ s' a' e' w',OkR (k s') → Rl s' a' e' w' → Q .normal a' w') : (Code.region id ops.toArray true).wp P Q a w:=by
 unfold stDraw at h
 simp only at h
 obtain ⟨n,hn⟩ : ∃ n,n = (ops.takeWhile fun o => !isStore o).length:=⟨_,rfl⟩
 rw [← hn] at h
 obtain ⟨m,hm⟩ : ∃ m,m = findM ops n (ops.takeWhile fun o => !isMem o).length:=⟨_,rfl⟩
 rw [← hm] at h
 cases hc : (P.follows .mixedOrders && madeB ops m n) with
 | false =>
  rw [hc] at h
  simp only [cond_false] at h
  cases hm : P.follows .mixedOrders with
  | false => rw [hm] at h; exact h.elim
  | true =>
   rw [hm] at h
   refine wp_region_noPanic (wp_region_any hm (zep (n:=n) _ _ _ _ ?_))
   have H:=wpG.ext (zhf (Q:=NoPanic Q) h hR fun s2 a2 e2 w2 h2 h3 => hK s2 a2 e2 w2 h2 h3) (Ext.drew w)
   simpa using H
 | true =>
  rw [hc] at h
  simp only [cond_true] at h
  simp only [Bool.and_eq_true] at hc
  refine wp_region_noPanic (zen n hc.1 hc.2 (fun _ _ _ _ _ h => h) (stvals_mk h hR fun s1 a' h1 hR1 => ?_))
  unfold Rest
  cases ht : tailB ops n (ops.drop m).length m (marked m 0 (Array.replicate ops.length false)) with
  | false =>
   rw [ht] at h1
   have:=zhf (Q:=NoPanic Q) h1 hR1 fun s2 a2 e2 w2 h2 h3 => hK s2 a2 e2 w2 h2 h3
   rwa [List.length_drop] at this
  | true =>
   rw [ht] at h1
   have:=zhg (Q:=NoPanic Q) rfl ht h1 hR1 fun s2 a2 e2 w2 h2 h3 => hK s2 a2 e2 w2 h2 h3
   rwa [List.length_drop] at this
end
section
variable {P : Program} {w0 : World}
def rvRun (tmps : Array Value) : ResultVar → Sem Value
 | .tmp t => pure (tmps.getD t undef)
 | .cell a t => do loadVar t (← asAddr (tmps.getD a undef))
theorem results_rv (fn : Func) (tmps : Array Value) : results fn tmps = (do let vs ← fn.results.mapM (rvRun tmps); pure (if h : vs.size = 1 then vs[0] else .tuple vs)):=by
 unfold results
 congr 1
def enumS : Nat → List SV → List (Nat × SV)
 | _,[] => []
 | k,x :: r => (k,x) :: enumS (k + 1) r
def start (P : Program) (w0 : World) (fn : Func) (args : List SV) (m : List Blk) (q : List (Orc P w0)) : Sst P w0 :=
 {n:=args.length + (fn.ntmps - args.length),t:=enumS 0 args,m:=m,x:=m.length,q:=q,g:=[] }
end
section
variable {P : Program} {w0 : World} {Post : Value → World → Prop} {J : World → Prop} {Q : Exit → Act → World → Prop}
abbrev Nx (P : Program) (w0 : World) (Post : Value → World → Prop):=(J : World → Prop) → Sta P w0 Post J → Rsl
def isGoCall (o : Oper) : Bool:=match o.op with
 | .call c => match c.callee with
  | .builtin _ => false
  | _ => true
 | _ => false
def stAny (s : Sta P w0 Post J) (o : Oper) (k : Nx P w0 Post) : Rsl :=
 match s.q with
 | .hang f args val R _ _ _ _ r => bif isGoCall o then
   .eq (stR s o) (fun _ W => .ok (.enter f args) W) (.br fun x => Sta.put (J:=fun W => J W ∧ R x W) ⟨s.n,s.t,s.z,s.m,s.x,r x⟩ o.dst (.v (val x)) (k _))
  else stStep s o (k J)
 | _ => stStep s o (k J)
def stOpsH (ops : List Oper) : List Oper → (J : World → Prop) → Sta P w0 Post J → Nx P w0 Post → Rsl
 | [],J,s,k => k J s
 | o :: l,J,s,k => match stWant s ops o with
  | some true => stAny s o fun J' s1 => stOpsH ops l J' s1 k
  | some false => s.put o.dst (.v undef) fun s1 => stOpsH ops l J s1 k
  | none => .bad
theorem stany_sound {s : Sta P w0 Post J} {o : Oper} {k : Nx P w0 Post} {a : Act} {e : Nat → Nat} {w : World} (hk : OkR (stAny s o k)) (hR : Rl s a e w) {K : Act → World → Prop}
  (hK : ∀ (J' : World → Prop) (s' : Sta P w0 Post J') a' e' w',OkR (k J' s') → Rl s' a' e' w' → K a' w') : o.wp P a w K Q:=by
 unfold stAny at hk
 split at hk
 ·
  rename_i f args α val R V ext off ok r hq
  cases hg : isGoCall o with
  | false =>
   rw [hg] at hk
   exact zef hk hR fun s' a' e' w' h1 h2 _ => hK _ s' a' e' w' h1 h2
  | true =>
   rw [hg] at hk
   obtain ⟨h1,h2⟩:=hk
   have hrun:=congrFun (congrFun h1 e) w
   unfold Oper.wp
   rw [hR.exec,hrun,Oper.upon_enter]
   refine (ok w hR.jj).mono ?_
   rintro _ W' ⟨x,rfl,hE,hx,hV⟩
   have hR2 : Rl (J:=fun W => J W ∧ R x W) ⟨s.n,s.t,s.z,s.m,s.x,r x⟩ a e W' :=
    ⟨hR.size,hR.defers,hR.slot,fun i b hb => hE.block (hR.blk i b hb),hR.own,hR.far,hR.ext.trans hE,⟨hR.jx _ _ hR.jj hE,hx⟩,fun W W2 h k => ⟨hR.jx _ _ h.1 k,ext x _ _ h.2 k⟩,
     fun i h1 h2 W o vs h => ⟨hR.jo i h1 h2 W o vs h.1,off x W _ o vs h.2 fun hv => by
      have h3:=(hV _ hv).1
      have h4:=hR.lt (i:=i) h2
      have h5:=hR.own i h1 h2
      omega⟩,
     fun g hg W o vs h => ⟨hR.jf g (Nat.le_trans (Below.size hE) hg) W o vs h.1,off x W g o vs h.2 fun hv => by
      have h3:=(hV _ hv).2
      omega⟩⟩
   obtain ⟨s',h3,h4,_⟩:=hR2.put (h2 x) rfl
   exact hK _ s' _ e W' h3 h4
 ·
  exact zef hk hR fun s' a' e' w' h1 h2 _ => hK _ s' a' e' w' h1 h2
theorem stopsH_wp {ops : List Oper} {k : Nx P w0 Post} : ∀ {l : List Oper} {J : World → Prop} {s : Sta P w0 Post J} {a : Act} {e : Nat → Nat} {w : World},OkR (stOpsH ops l J s k) → Rl s a e w →
  (∀ (J' : World → Prop) (s' : Sta P w0 Post J') a' e' w',OkR (k J' s') → Rl s' a' e' w' → Q .normal a' w') → wpList P ops.toArray Q l a w
 | [],J,s,a,e,w,h,hR,hK => wpList_nil (hK J s a e w h hR)
 | o :: l,J,s,a,e,w,h,hR,hK => by
  unfold stOpsH at h
  refine wpList_step fun K hK' => ?_
  split at h
  ·
   rename_i hw
   rw [if_pos (zbx hw hR)]
   exact stany_sound h hR fun J' s' a' e' w' h1 h2 => hK' _ _ (stopsH_wp h1 h2 hK)
  ·
   rename_i hw
   rw [if_neg (by rw [zbx hw hR]; exact Bool.false_ne_true)]
   obtain ⟨s',h1,h2,_⟩:=hR.put h rfl
   exact hK' _ _ (stopsH_wp h1 h2 hK)
  ·
   exact h.elim
def casesN : Nat → OT P w0 Post J → (OT P w0 Post J → Rsl) → Rsl
 | 0,q,k => k q
 | f + 1,q,k => match q with
  | .cases p y n => .both (.br fun h : PLift p => casesN f (y h.down) k) (.br fun h : PLift (¬ p) => casesN f (n h.down) k)
  | .get p _ r => .br fun x : { x // p x } => casesN f (r x.1 x.2) k
  | q => k q
theorem zfe : ∀ {f : Nat} {q : OT P w0 Post J} {k : OT P w0 Post J → Rsl},OkR (casesN f q k) → ∃ q',OkR (k q')
 | 0,q,k,h => ⟨q,h⟩
 | f + 1,q,k,h => by
  unfold casesN at h
  split at h
  ·
   rename_i p y n
   by_cases hp : p
   ·
    exact zfe (h.1 ⟨hp⟩)
   ·
    exact zfe (h.2 ⟨hp⟩)
  ·
   rename_i α p hx r
   obtain ⟨x,hp⟩:=hx
   exact zfe (h ⟨x,hp⟩)
  ·
   exact ⟨_,h⟩
def same1 (a b : SV) (n : Rsl) : Rsl :=
 match a,b with
 | .v x,.v y => .eq (fun _ W => .ok (.value x) W) (fun _ W => .ok (.value y) W) n
 | .p i o,.p i' o' => bif Nat.beq i i' && Nat.beq o o' then n else .bad
 | _,_ => .bad
def sameL : List SV → List SV → Rsl → Rsl
 | [],[],n => n
 | a :: l,b :: l',n => same1 a b (sameL l l' n)
 | _,_,_ => .bad
def sameM : List Blk → List Blk → Rsl → Rsl
 | _,[],n => n
 | a :: l,b :: l',n => bif Nat.beq a.ty b.ty then sameL a.cs b.cs (sameM l l' n) else .bad
 | [],_ :: _,_ => .bad
def sameT (s : Sta P w0 Post J) : List (Nat × SV) → Rsl → Rsl
 | [],n => n
 | (j,b) :: r,n => same1 (lookZ s.z s.t j) b (sameT s r n)
def stSame (s : Sta P w0 Post J) (T : List (Nat × SV)) (M : List Blk) : Rsl:=sameT s T (sameM s.m M .done)
theorem same1_sound (e : Nat → Nat) (w : World) {a b : SV} {n : Rsl} (h : OkR (same1 a b n)) : a.den e = b.den e ∧ OkR n:=by
 unfold same1 at h
 split at h
 ·
  rename_i x y
  obtain ⟨h1,h2⟩:=h
  have h3:=congrFun (congrFun h1 e) w
  have h3 : x = y:=by simpa using h3
  exact ⟨h3,h2⟩
 ·
  rename_i i o i' o'
  cases hb : (Nat.beq i i' && Nat.beq o o') with
  | false => rw [hb] at h; exact h.elim
  | true =>
   rw [hb] at h
   simp only [Bool.and_eq_true] at hb
   rw [Nat.eq_of_beq_eq_true hb.1,Nat.eq_of_beq_eq_true hb.2]
   exact ⟨rfl,h⟩
 ·
  exact h.elim
theorem sameL_sound (e : Nat → Nat) (w : World) : ∀ {l l' : List SV} {n : Rsl},OkR (sameL l l' n) → l.map (SV.den e) = l'.map (SV.den e) ∧ OkR n
 | [],[],n,h => ⟨rfl,h⟩
 | a :: l,b :: l',n,h => by
  obtain ⟨h1,h2⟩:=same1_sound e w (show OkR (same1 a b (sameL l l' n)) from h)
  obtain ⟨h3,h4⟩:=sameL_sound e w h2
  exact ⟨by rw [List.map_cons,List.map_cons,h1,h3],h4⟩
 | [],_ :: _,_,h => h.elim
 | _ :: _,[],_,h => h.elim
theorem sameM_sound (e : Nat → Nat) (w : World) : ∀ {m M : List Blk} {n : Rsl},OkR (sameM m M n) → (∀ (i : Nat) b,M[i]? = some b → ∃ b',m[i]? = some b' ∧ b'.obj e = b.obj e) ∧ M.length ≤ m.length ∧ OkR n
 | m,[],n,h => ⟨fun i b hb => by simp at hb,Nat.zero_le _,by cases m <;> exact h⟩
 | a :: l,b :: l',n,h => by
  have h : OkR (bif Nat.beq a.ty b.ty then sameL a.cs b.cs (sameM l l' n) else .bad):=h
  cases hb : Nat.beq a.ty b.ty with
  | false => rw [hb] at h; exact h.elim
  | true =>
   rw [hb] at h
   obtain ⟨h1,h2⟩:=sameL_sound e w (show OkR (sameL a.cs b.cs (sameM l l' n)) from h)
   obtain ⟨h3,h4,h5⟩:=sameM_sound e w h2
   refine ⟨fun i c hc => ?_,by simpa using h4,h5⟩
   cases i with
   | zero =>
    obtain rfl : b = c:=by simpa using hc
    refine ⟨a,rfl,?_⟩
    unfold Blk.obj
    rw [h1,Nat.eq_of_beq_eq_true hb]
   | succ i => exact h3 i c (by simpa using hc)
 | [],_ :: _,_,h => h.elim
theorem sameT_sound {s : Sta P w0 Post J} (e : Nat → Nat) (w : World) : ∀ {T : List (Nat × SV)} {n : Rsl},OkR (sameT s T n) → (∀ x ∈ T,(lookZ s.z s.t x.1).den e = x.2.den e) ∧ OkR n
 | [],n,h => ⟨fun x hx => by simp at hx,h⟩
 | (j,b) :: r,n,h => by
  obtain ⟨h1,h2⟩:=same1_sound e w (show OkR (same1 (lookZ s.z s.t j) b (sameT s r n)) from h)
  obtain ⟨h3,h4⟩:=sameT_sound e w h2
  refine ⟨fun x hx => ?_,h4⟩
  rcases List.mem_cons.1 hx with rfl | hx
  ·
   exact h1
  ·
   exact h3 x hx
theorem lookZ_or {z : Nat → Value} {j : Nat} : ∀ (l : List (Nat × SV)),(∃ x ∈ l,x.1 = j ∧ lookZ z l j = x.2) ∨ lookZ z l j = .v (z j)
 | [] => .inr rfl
 | (i,y) :: r => by
  rw [zgg]
  by_cases h : j = i
  ·
   subst h
   exact .inl ⟨(j,y),List.mem_cons_self,rfl,if_pos rfl⟩
  ·
   rw [if_neg h]
   rcases lookZ_or r with ⟨x,h1,h2⟩ | h1
   ·
    exact .inl ⟨x,List.mem_cons_of_mem _ h1,h2⟩
   ·
    exact .inr h1
theorem rl_same {s : Sta P w0 Post J} {T : List (Nat × SV)} {M : List Blk} {q : OT P w0 Post J} {a : Act} {e : Nat → Nat} {w : World} (h : OkR (stSame s T M)) (hR : Rl s a e w) :
  Rl ⟨s.n,T,fun j => (lookZ s.z s.t j).den e,M,s.x,q⟩ a e w:=by
 obtain ⟨h1,h2⟩:=sameT_sound e w h
 obtain ⟨h3,h4,_⟩:=sameM_sound e w h2
 refine ⟨hR.size,hR.defers,fun j => ?_,fun i b hb => ?_,fun i h5 h6 => hR.own i h5 (Nat.lt_of_lt_of_le h6 h4),fun i j h5 h6 h7 h8 => hR.far i j h5 (Nat.lt_of_lt_of_le h6 h4) (Nat.lt_of_lt_of_le h7 h4) h8,hR.ext,hR.jj,hR.jx,fun i h5 h6 => hR.jo i h5 (Nat.lt_of_lt_of_le h6 h4),hR.jf⟩
 ·
  show _ = (lookZ _ T j).den e
  rw [hR.slot j]
  rcases lookZ_or (z:=fun j => (lookZ s.z s.t j).den e) (j:=j) T with ⟨x,hx,rfl,h5⟩ | h5
  ·
   rw [h5]
   exact h1 x hx
  ·
   rw [h5]
   rfl
 ·
  obtain ⟨b',h5,h6⟩:=h3 i b hb
  rw [← h6]
  exact hR.blk i b' h5
abbrev Nc (P : Program) (w0 : World) (Post : Value → World → Prop):=(J : World → Prop) → Xt → Sta P w0 Post J → Rsl
def rep (f : (J : World → Prop) → Sta P w0 Post J → Nc P w0 Post → Rsl) : Nat → (J : World → Prop) → Sta P w0 Post J → Nc P w0 Post → Rsl
 | 0,_,_,_ => .bad
 | n + 1,J,s,k => f J s fun J' x s1 => match x with
  | .normal => rep f n J' s1 k
  | .exit j => k J' (.exit j) s1
  | .ret => k J' .ret s1
def stC : Code → (J : World → Prop) → Sta P w0 Post J → Nc P w0 Post → Rsl
 | .skip,J,s,k => k J .normal s
 | .label _,J,s,k => k J .normal s
 | .region _ ops draw,J,s,k => casesN 4 s.q fun q => bif draw then stDraw ops.toList { s with q:=q } (fun s1 => k J .normal s1) else stOpsH ops.toList ops.toList J { s with q:=q } fun J' s1 => k J' .normal s1
 | .seq a b,J,s,k => stC a J s fun J' x s1 => match x with
  | .normal => stC b J' s1 k
  | .exit j => k J' (.exit j) s1
  | .ret => k J' .ret s1
 | .cond c a b,J,s,k => match stX s c with
  | .v (.bool true) => stC a J s k
  | .v (.bool false) => stC b J s k
  | _ => .bad
 | .block id c,J,s,k => stC c J s fun J' x s1 => match x with
  | .exit j => bif Nat.beq j id then k J' .normal s1 else k J' (.exit j) s1
  | .normal => k J' .normal s1
  | .ret => k J' .ret s1
 | .scope c,J,s,k => stC c J s k
 | .loop c,J,s,k => match s.q with
  | .loop T M μ H i _ body => .both (stSame s (T i) (M i)) (.br fun l : { l : Nat → Nat // H l } => .br fun z : Nat → Value => stC c J ⟨s.n,T l.1,z,M l.1,s.x,body l.1 l.2⟩ fun J' x s1 => match x with
   | .normal => match s1.q with
    | .next l' c' _ => bif Nat.beq s1.n s.n && Nat.beq s1.x s.x then .weq J' J (.peq c' (H l' ∧ μ l' < μ l.1) (stSame s1 (T l') (M l'))) else .bad
    | _ => .bad
   | .exit j => k J' (.exit j) s1
   | .ret => k J' .ret s1)
  | .loopG T M μ H _ _ t m _ body => .both (stSame s t m) (.br fun l : { l // H l } => .br fun z : Nat → Value => stC c J ⟨s.n,T l.1,z,M l.1,s.x,body l.1 l.2⟩ fun J' x s1 => match x with
   | .normal => match s1.q with
    | .nextG t' m' c' _ => bif Nat.beq s1.n s.n && Nat.beq s1.x s.x then .weq J' J (.peq c' (∃ l',(H l' ∧ μ l' < μ l.1) ∧ T l' = t' ∧ M l' = m') (stSame s1 t' m')) else .bad
    | _ => .bad
   | .exit j => k J' (.exit j) s1
   | .ret => k J' .ret s1)
  | .unroll n r => rep (fun J s k => stC c J s k) n J { s with q:=r } k
  | _ => .bad
 | .exit id,J,s,k => k J (.exit id) s
 | .ret,J,s,k => k J .ret s
 | _,_,_,_ => .bad
theorem zfg : ∀ {c : Code} {Q : Exit → Act → World → Prop} {J : World → Prop} {s : Sta P w0 Post J} {k : Nc P w0 Post} {a : Act} {e : Nat → Nat} {w : World},OkR (stC c J s k) → Rl s a e w →
  (∀ (J' : World → Prop) x (s' : Sta P w0 Post J') a' e' w',OkR (k J' x s') → Rl s' a' e' w' → Q x.to a' w') → c.wp P Q a w
 | .skip,Q,J,s,k,a,e,w,h,hR,hK => wp_skip (hK J .normal s a e w h hR)
 | .label _,Q,J,s,k,a,e,w,h,hR,hK => wp_label (hK J .normal s a e w h hR)
 | .region _ ops draw,Q,J,s,k,a,e,w,h,hR,hK => by
  unfold stC at h
  obtain ⟨q',h⟩:=zfe h
  have hR:=hR.q q'
  cases draw with
  | true => simpa using stdraw_wp (ops:=ops.toList) h hR fun s' a' e' w' h1 h2 => hK J .normal s' a' e' w' h1 h2
  | false => exact wp_region_list (by simpa using stopsH_wp (ops:=ops.toList) h hR fun J' s' a' e' w' h1 h2 => hK J' .normal s' a' e' w' h1 h2)
 | .seq a b,Q,J,s,k,a',e,w,h,hR,hK => by
  unfold stC at h
  refine wp_seq (zfg h hR fun J' x s1 a1 e1 w1 h1 h2 => ?_)
  cases x with
  | normal => exact zfg h1 h2 hK
  | exit j => exact hK J' (.exit j) s1 a1 e1 w1 h1 h2
  | ret => exact hK J' .ret s1 a1 e1 w1 h1 h2
 | .cond c x y,Q,J,s,k,a,e,w,h,hR,hK => by
  unfold stC at h
  have hc : a.eval c = (stX s c).den e:=by rw [hR.eval]
  split at h
  ·
   rename_i he
   rw [he] at hc
   exact wp_cond_true hc (zfg h hR hK)
  ·
   rename_i he
   rw [he] at hc
   exact wp_cond_false hc (zfg h hR hK)
  ·
   exact h.elim
 | .block id c,Q,J,s,k,a,e,w,h,hR,hK => by
  unfold stC at h
  refine wp_block (zfg h hR fun J' x s1 a1 e1 w1 h1 h2 => ?_)
  cases x with
  | normal => exact hK J' .normal s1 a1 e1 w1 h1 h2
  | ret => exact hK J' .ret s1 a1 e1 w1 h1 h2
  | exit j =>
   simp only at h1
   show (if j = id then Q .normal a1 w1 else Q (.exit j) a1 w1)
   cases hj : Nat.beq j id with
   | true =>
    rw [hj] at h1
    rw [if_pos (Nat.eq_of_beq_eq_true hj)]
    exact hK J' .normal s1 a1 e1 w1 h1 h2
   | false =>
    rw [hj] at h1
    rw [if_neg fun hh => by subst hh; simp at hj]
    exact hK J' (.exit j) s1 a1 e1 w1 h1 h2
 | .scope c,Q,J,s,k,a,e,w,h,hR,hK => by
  unfold stC at h
  refine wp_scope_straight (zfg h hR fun J' x s1 a1 e1 w1 h1 h2 => ?_)
  have:=hK J' x s1 a1 e1 w1 h1 h2
  cases x <;> exact this
 | .exit id,Q,J,s,k,a,e,w,h,hR,hK => wp_exit (hK J (.exit id) s a e w h hR)
 | .ret,Q,J,s,k,a,e,w,h,hR,hK => wp_ret (hK J .ret s a e w h hR)
 | .loop c,Q,J,s,k,a,e,w,h,hR,hK => by
  unfold stC at h
  split at h
  ·
   rename_i T M μ H i h0 body hq
   obtain ⟨h1,h2⟩:=h
   refine wp_loop_ghost (fun n a w => ∃ (l : { l : Nat → Nat // H l }) (z : Nat → Value) (e : Nat → Nat),μ l.1 = n ∧ Rl ⟨s.n,T l.1,z,M l.1,s.x,body l.1 l.2⟩ a e w) (μ i) ⟨⟨i,h0⟩,_,e,rfl,rl_same h1 hR⟩ fun n a w ⟨l,z,e,hn,hR⟩ => ?_
   refine zfg (h2 l z) hR fun J' x s' a' e' w' h3 h4 => ?_
   cases x with
   | normal =>
    simp only at h3
    split at h3
    ·
     rename_i l' c' hc hq'
     cases hb : (Nat.beq s'.n s.n && Nat.beq s'.x s.x) with
     | false => rw [hb] at h3; exact h3.elim
     | true =>
      rw [hb] at h3
      simp only [Bool.and_eq_true] at hb
      obtain ⟨hJ,hc2,h5⟩:=h3
      subst hJ
      have hc3 : H l' ∧ μ l' < μ l.1:=by rw [← hc2]; exact hc
      have h6:=rl_same (q:=body l' hc3.1) h5 h4
      rw [Nat.eq_of_beq_eq_true hb.1,Nat.eq_of_beq_eq_true hb.2] at h6
      exact show ∃ n',n' < n ∧ _ from ⟨μ l',by rw [← hn]; exact hc3.2,⟨l',hc3.1⟩,_,e',rfl,h6⟩
    ·
     exact h3.elim
   | exit j => exact hK J' (.exit j) s' a' e' w' h3 h4
   | ret => exact hK J' .ret s' a' e' w' h3 h4
  ·
   rename_i α T M μ H i h0 t m ht body hq
   obtain ⟨h1,h2⟩:=h
   obtain ⟨rfl,rfl⟩:=ht
   refine wp_loop_ghost (fun n a w => ∃ (l : { l // H l }) (z : Nat → Value) (e : Nat → Nat),μ l.1 = n ∧ Rl ⟨s.n,T l.1,z,M l.1,s.x,body l.1 l.2⟩ a e w) (μ i) ⟨⟨i,h0⟩,_,e,rfl,rl_same h1 hR⟩ fun n a w ⟨l,z,e,hn,hR⟩ => ?_
   refine zfg (h2 l z) hR fun J' x s' a' e' w' h3 h4 => ?_
   cases x with
   | normal =>
    simp only at h3
    split at h3
    ·
     rename_i t' m' c' hc hq'
     cases hb : (Nat.beq s'.n s.n && Nat.beq s'.x s.x) with
     | false => rw [hb] at h3; exact h3.elim
     | true =>
      rw [hb] at h3
      simp only [Bool.and_eq_true] at hb
      obtain ⟨hJ,hc2,h5⟩:=h3
      subst hJ
      have hc3 : ∃ l',(H l' ∧ μ l' < μ l.1) ∧ T l' = t' ∧ M l' = m':=by rw [← hc2]; exact hc
      obtain ⟨l',⟨hc4,hc5⟩,hT,hM⟩:=hc3
      have h6:=rl_same (q:=body l' hc4) h5 h4
      rw [Nat.eq_of_beq_eq_true hb.1,Nat.eq_of_beq_eq_true hb.2,← hT,← hM] at h6
      exact show ∃ n',n' < n ∧ _ from ⟨μ l',by rw [← hn]; exact hc5,⟨l',hc4⟩,_,e',rfl,h6⟩
    ·
     exact h3.elim
   | exit j => exact hK J' (.exit j) s' a' e' w' h3 h4
   | ret => exact hK J' .ret s' a' e' w' h3 h4
  ·
   rename_i n r hq
   refine wp_loop_rounds n ?_
   have hR:=hR.q r
   have key : ∀ (n : Nat) (J : World → Prop) (s : Sta P w0 Post J) a e w,OkR (rep (fun J s k => stC c J s k) n J s k) → Rl s a e w → Code.rounds P c Q n a w:=by
    intro n
    induction n with
    | zero => intro J s a e w h _; exact h.elim
    | succ n ih =>
     intro J s a e w h hR
     rw [rounds_succ]
     refine zfg h hR fun J' x s' a' e' w' h3 h4 => ?_
     cases x with
     | normal => exact ih J' s' a' e' w' h3 h4
     | exit j => exact hK J' (.exit j) s' a' e' w' h3 h4
     | ret => exact hK J' .ret s' a' e' w' h3 h4
   exact key n J _ a e w h hR
  ·
   exact h.elim
 | .rangeFunc _ _ _ _,_,_,_,_,_,_,_,h,_,_ => h.elim
 | .goto _,_,_,_,_,_,_,_,h,_,_ => h.elim
 | .refuse _,_,_,_,_,_,_,_,h,_,_ => h.elim
/-! ### results -/
def stRV (s : Sta P w0 Post J) : ResultVar → Option Value
 | .tmp t => match lookZ s.z s.t t with
  | .v x => some x
  | .p _ _ => none
 | .cell t ty => match lookZ s.z s.t t with
  | .p i off => match s.m[i]?,P.underlying ty with
   | some b,some d => bif isRowT d then
     match P.info? ty with
     | some inf => match toVals ((b.cs.drop off).take inf.size) with
      | some vs => bif Nat.beq vs.length inf.size then some (.agg vs.toArray) else none
      | none => none
     | none => none
    else match b.cs[off]? with
     | some (.v x) => some x
     | _ => none
   | _,_ => none
  | .v _ => none
theorem zdp {s : Sta P w0 Post J} {r : ResultVar} {v : Value} {a : Act} {e : Nat → Nat} {w : World} (h : stRV s r = some v) (hR : Rl s a e w) : (rvRun a.tmps r).run P w = .ok v w:=by
 cases r with
 | tmp t =>
  unfold stRV at h
  simp only at h
  split at h
  ·
   rename_i x hx
   injection h with h
   subst h
   show (pure (a.tmps.getD t undef) : Sem Value).run P w = _
   rw [hR.slot t,hx]
   exact Sem.run_pure ..
  ·
   cases h
 | cell t ty =>
  unfold stRV at h
  simp only at h
  split at h
  ·
   rename_i i off hx
   have ha : a.tmps.getD t undef = .pointer (some ⟨e i,off,none⟩):=by rw [hR.slot t,hx]; rfl
   have hrun : (rvRun a.tmps (.cell t ty)).run P w = (loadVar ty ⟨e i,off,none⟩).run P w:=by
    show (do loadVar ty (← asAddr (a.tmps.getD t undef)) : Sem Value).run P w = _
    rw [ha]
    simp [asAddr]
   rw [hrun]
   split at h
   ·
    rename_i b d hb hu
    have hblk:=hR.blk i b hb
    cases hd : isRowT d with
    | true =>
     rw [hd] at h
     simp only [cond_true] at h
     split at h
     ·
      rename_i inf hi
      split at h
      ·
       rename_i vs hvs
       cases hl : Nat.beq vs.length inf.size with
       | false => rw [hl] at h; cases h
       | true =>
        rw [hl] at h
        have hlen:=Nat.eq_of_beq_eq_true hl
        obtain rfl : Value.agg vs.toArray = v:=by simpa using h
        refine run_loadVar_mid w (e i) off ty vs d (fun j u hu => ?_) hu (by cases d <;> simp_all [isRowT]) (by rw [hi]; simp [hlen])
        have hj : j < vs.length:=(List.getElem?_eq_some_iff.1 hu).1
        rw [cell_of_row w (e i) (off + j) _ _ _ hblk]
        have hm:=zib (e:=e) hvs
        rw [← hm,← hlen,List.getElem?_map,List.getElem?_take_of_lt (by omega),List.getElem?_drop] at hu
        simpa using hu
      ·
       cases h
     ·
      cases h
    | false =>
     rw [hd] at h
     simp only [cond_false] at h
     split at h
     ·
      rename_i x hc
      obtain rfl : x = v:=by simpa using h
      have hcell : w.cell? ⟨e i,off,none⟩ = some x:=by
       rw [cell_of_row w (e i) off _ _ _ hblk]
       simp [hc,SV.den]
      have hl : (load ⟨e i,off,none⟩).run P w = .ok x w:=by simp [go_sem,hcell]
      simp only [loadVar,Sem.run_bind,agg_no hu hd w,Result.andThen_ok,Bool.false_eq_true,if_false,hl]
     ·
      cases h
   ·
    cases h
  ·
   cases h
def stRes (s : Sta P w0 Post J) (fn : Func) : Option Value :=
 match fn.results.toList with
 | [a] => stRV s a
 | [a,b] => match stRV s a,stRV s b with
  | some x,some y => some (.tuple #[x,y])
  | _,_ => none
 | [a,b,c] => match stRV s a,stRV s b,stRV s c with
  | some x,some y,some z => some (.tuple #[x,y,z])
  | _,_,_ => none
 | _ => none
theorem stres_sound {s : Sta P w0 Post J} {fn : Func} {v : Value} {a : Act} {e : Nat → Nat} {w : World} (h : stRes s fn = some v) (hR : Rl s a e w) : (results fn a.tmps).run P w = .ok v w:=by
 rw [results_rv]
 unfold stRes at h
 split at h
 ·
  rename_i x hx
  have hx : fn.results = #[x]:=by apply Array.toList_inj.1; simpa using hx
  have hr:=zdp h hR
  rw [hx]
  simp [hr]
 ·
  rename_i x y hx
  have hx : fn.results = #[x,y]:=by apply Array.toList_inj.1; simpa using hx
  split at h
  ·
   rename_i u v h1 h2
   injection h with h
   subst h
   have hr1:=zdp h1 hR
   have hr2:=zdp h2 hR
   rw [hx]
   simp [hr1,hr2]
  ·
   cases h
 ·
  rename_i x y z hx
  have hx : fn.results = #[x,y,z]:=by apply Array.toList_inj.1; simpa using hx
  split at h
  ·
   rename_i u v t h1 h2 h3
   injection h with h
   subst h
   have hr1:=zdp h1 hR
   have hr2:=zdp h2 hR
   have hr3:=zdp h3 hR
   rw [hx]
   simp [hr1,hr2,hr3]
  ·
   cases h
 ·
  cases h
def wayEnd (fn : Func) : Nc P w0 Post:=fun _ x s => match x with
 | .exit _ => .bad
 | _ => match stRes s fn,s.q with
  | some u,.ret v _ => .eq (fun _ W => .ok (.value u) W) (fun _ W => .ok (.value v) W) .done
  | _,_ => .bad
def wayRes (fn : Func) (args : List SV) (m : List Blk) (q : OT P w0 Post (Ext w0)) : Rsl :=
 match fn.body with
 | some c => stC c (Ext w0) ⟨args.length + (fn.ntmps - args.length),enumS 0 args,fun _ => undef,m,m.length,q⟩ (wayEnd fn)
 | none => .bad
theorem enum_lookZ : ∀ (l : List SV) (k i : Nat),lookZ (fun _ => undef) (enumS k l) i = if k ≤ i then l.getD (i - k) (.v undef) else .v undef
 | [],k,i => by
  show SV.v undef = _
  split <;> simp
 | x :: r,k,i => by
  show lookZ _ ((k,x) :: enumS (k + 1) r) i = _
  rw [zgg,enum_lookZ r (k + 1) i]
  by_cases h : i = k
  ·
   subst h
   rw [if_pos rfl,if_pos (Nat.le_refl _),Nat.sub_self]
   rfl
  ·
   rw [if_neg h]
   by_cases h2 : k ≤ i
   ·
    rw [if_pos (by omega),if_pos h2,show i - k = (i - (k + 1)) + 1 by omega]
    rfl
   ·
    rw [if_neg (by omega),if_neg h2]
theorem way {f : FuncId} {fn : Func} {w : World} (hf : P.funcs[f]? = some fn) (args : List SV) (m : List Blk) (e : Nat → Nat) (q : OT P w Post (Ext w))
  (hm : ∀ (i : Nat) b,m[i]? = some b → w.heap[e i]? = some (b.obj e)) (chk : (wayRes fn args m q).left = (wayRes fn args m q).right) :
  Calls P f (args.map (SV.den e)).toArray w fun e' w' => ∃ v,e' = .returned v ∧ Post v w':=by
 have hl:=zik chk
 unfold wayRes at hl
 split at hl
 ·
  rename_i c hc
  refine calls_of_wp hf hc (zfg (e:=e) hl ?_ ?_)
  ·
   refine ⟨by simp,rfl,fun i => ?_,hm,fun i h1 h2 => ?_,fun i j h1 h2 h3 h4 => ?_,Ext.refl w,Ext.refl w,fun W W' h k => h.trans k,fun i h1 h2 => ?_,fun g hg W o vs h => cells_ext vs o h hg⟩
   ·
    show _ = (lookZ _ (enumS 0 args) i).den e
    rw [enum_lookZ,if_pos (Nat.zero_le _),Nat.sub_zero]
    by_cases hi : i < args.length
    ·
     simp [Array.getD_eq_getD_getElem?,Array.getElem?_append,hi,List.getD_eq_getElem?_getD]
    ·
     simp [Array.getD_eq_getD_getElem?,Array.getElem?_append,hi,List.getD_eq_getElem?_getD,Array.getElem?_replicate,SV.den]
     split <;> rfl
   ·
    have h1 : m.length ≤ i:=h1
    have h2 : i < m.length:=h2
    omega
   ·
    have h1 : m.length ≤ i:=h1
    have h2 : i < m.length:=h2
    omega
   ·
    have h1 : m.length ≤ i:=h1
    have h2 : i < m.length:=h2
    omega
  ·
   intro J' x s a' e' w' h1 h2
   have fin : (∃ u,stRes s fn = some u) → bodyPost P fn (fun e' w' => ∃ v,e' = .returned v ∧ Post v w') x.to a' w':=fun ⟨u,hu⟩ => by
    have hres:=stres_sound hu h2
    cases x with
    | exit id => exact h1.elim
    | normal =>
     unfold wayEnd at h1
     rw [hu] at h1
     simp only at h1
     split at h1
     ·
      rename_i u' v hp he hq
      have huv:=congrFun (congrFun h1.1 e') w'
      have huv : u' = v:=by simpa using huv
      injection he with he
      subst he
      exact ⟨h2.defers,_,hres,_,rfl,by rw [huv]; exact hp _ h2.jj⟩
     ·
      exact h1.elim
    | ret =>
     unfold wayEnd at h1
     rw [hu] at h1
     simp only at h1
     split at h1
     ·
      rename_i u' v hp he hq
      have huv:=congrFun (congrFun h1.1 e') w'
      have huv : u' = v:=by simpa using huv
      injection he with he
      subst he
      exact ⟨h2.defers,_,hres,_,rfl,by rw [huv]; exact hp _ h2.jj⟩
     ·
      exact h1.elim
   cases hu : stRes s fn with
   | some u => exact fin ⟨u,hu⟩
   | none =>
    cases x with
    | exit id => exact h1.elim
    | normal => unfold wayEnd at h1; rw [hu] at h1; exact h1.elim
    | ret => unfold wayEnd at h1; rw [hu] at h1; exact h1.elim
 ·
  exact hl.elim
def binK (op : BinOp) (T : TypeId) (X Y : Operand) (x y : Value) : Sem Value:=do eqGuard op T X Y x y; binOp op T x y
theorem zbg {op : BinOp} {T : TypeId} {X Y : Operand} {x y r : Value} {W : World} (hg : (eqGuard op T X Y x y).run P W = .ok () W) (hb : (binOp op T x y).run P W = .ok r W) : (binK op T X Y x y).run P W = .ok r W:=by
 unfold binK
 simp only [Sem.run_bind,hg,Result.andThen_ok,hb]
theorem zeh {T : TypeId} {X Y : Operand} {c : Int} {v : Bool} (h : decide (0 ≤ c) = v) (W : World) : (binK .geq T X Y (.int .i64 c) (.int .i64 0)).run P W = .ok (.bool v) W:=by
 subst h
 unfold binK
 simp [go_sem,eqGuard]
theorem neq_run {T : TypeId} {X Y : Operand} {c d : Int} (h : ¬ c = d) (W : World) : (binK .neq T X Y (.int .i64 c) (.int .i64 d)).run P W = .ok (.bool true) W:=by
 unfold binK
 simp [go_sem,eqGuard,h]
theorem way0 {f : FuncId} {fn : Func} {w : World} (hf : P.funcs[f]? = some fn) (args : List Value) (q : OT P w Post (Ext w)) (chk : (wayRes fn (args.map SV.v) [] q).left = (wayRes fn (args.map SV.v) [] q).right) :
  Calls P f args.toArray w fun e' w' => ∃ v,e' = .returned v ∧ Post v w':=by
 have h:=way hf (args.map SV.v) [] (fun _ => 0) q (fun i b hb => by cases hb) chk
 rw [List.map_map] at h
 have e : (SV.den fun _ => 0) ∘ SV.v = id:=rfl
 rwa [e,List.map_id] at h
theorem way1 {f : FuncId} {fn : Func} {w : World} (hf : P.funcs[f]? = some fn) (args : List Value) {V : Value} (q : OT P w (fun v W => v = V ∧ Ext w W) (Ext w)) (chk : (wayRes fn (args.map SV.v) [] q).left = (wayRes fn (args.map SV.v) [] q).right) :
  Calls P f args.toArray w fun e' w' => e' = .returned V ∧ Ext w w' :=
 (way0 hf args q chk).mono fun _ _ ⟨_,he,hv,hE⟩ => ⟨by rw [he,hv],hE⟩
end
section
variable {P : Program} {T : TypeId} {X Y : Operand} {W : World}
theorem inc_run {n : Nat} (h : n < 4294967296) : (binK .add T X Y (.int .i64 (n : Int)) (.int .i64 1)).run P W = .ok (.int .i64 ((n + 1 : Nat) : Int)) W:=by
 unfold binK
 simp [go_sem,eqGuard]
 exact IntWalk.i64_in _ (by omega)
theorem rem2_run {a b : Int} (h : a % 2 = b) (h0 : 0 ≤ a) : (binK .rem T X Y (.int .u64 a) (.int .u64 2)).run P W = .ok (.int .u64 b) W:=by
 unfold binK
 simp [go_sem,eqGuard]
 rw [Int.tmod_eq_emod_of_nonneg h0,h]
theorem quo2_run {a b : Int} (h : a / 2 = b) (h0 : 0 ≤ a) (h1 : a ≤ 18446744073709551615) : (binK .quo T X Y (.int .u64 a) (.int .u64 2)).run P W = .ok (.int .u64 b) W:=by
 unfold binK
 simp [go_sem,eqGuard]
 rw [Int.tdiv_eq_ediv_of_nonneg h0,h]
 exact IntWalk.u64_in _ (by omega)
theorem addh_run {a b : Int} (h : a + 9223372036854775808 = b) (h0 : 0 ≤ b) (h1 : b ≤ 18446744073709551615) : (binK .add T X Y (.int .u64 a) (.int .u64 9223372036854775808)).run P W = .ok (.int .u64 b) W:=by
 subst h
 unfold binK
 simp [go_sem,eqGuard]
 exact IntWalk.u64_in _ (by omega)
theorem dbl_run {n : Nat} : (binK .add T X Y (.int .u64 (n : Int)) (.int .u64 (n : Int))).run P W = .ok (.int .u64 (((n + n) % 18446744073709551616 : Nat) : Int)) W:=by
 unfold binK
 simp [go_sem,eqGuard]
 rw [IntKind.wrap_u64]
theorem high_run {n : Nat} {v : Bool} (h : decide (9223372036854775808 ≤ n) = v) : (binK .geq T X Y (.int .u64 (n : Int)) (.int .u64 9223372036854775808)).run P W = .ok (.bool v) W:=by
 subst h
 unfold binK
 simp [go_sem,eqGuard]
 omega
theorem zjq {a b : Int} (h : a - 1 = b) (h0 : 0 ≤ a) (h1 : a < 4294967296) : (binK .sub T X Y (.int .i64 a) (.int .i64 1)).run P W = .ok (.int .i64 b) W:=by
 subst h
 unfold binK
 simp [go_sem,eqGuard]
 exact IntWalk.i64_in _ (by omega)
theorem lssi_run {n : Nat} {m : Int} (h : (n : Int) < m) : (binK .lss T X Y (.int .i64 (n : Int)) (.int .i64 m)).run P W = .ok (.bool true) W:=by
 unfold binK
 simp [go_sem,eqGuard,h]
theorem lss_run {c d : Int} {v : Bool} (h : decide (c < d) = v) : (binK .lss T X Y (.int .i64 c) (.int .i64 d)).run P W = .ok (.bool v) W:=by
 subst h
 unfold binK
 simp [go_sem,eqGuard]
end
def lst (l : List Nat) : Nat → Nat:=fun k => l.getD k 0
def cN (n : Nat) : List SV:=[.v (.int .u64 (wd n 0)),.v (.int .u64 (wd n 1)),.v (.int .u64 (wd n 2)),.v (.int .u64 (wd n 3))]
def cZ : List SV:=[.v (.int .u64 0),.v (.int .u64 0),.v (.int .u64 0),.v (.int .u64 0)]
end Go.Proofs.YtihophdbkjhopaaGreatDoor
