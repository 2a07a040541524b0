/-
  Of Au3 Au4 Add Sub Cmp.
-/
import Derived.Deep.LoopGhost
import Derived.LoopN
import Derived.Test.YtihophdbkjhopaaDoorRows
import Derived.WalkKit
import Derived.WalkSpells
import Derived.WalkLawsBesides
import Derived.Deep.RegionWith
import Derived.Deep.QuietTactic
import Derived.BigQuiet
import Derived.Test.YtihophdbkjhopaaDoorZL3
import Derived.Test.YtihophdbkjhopaaDoorZL1
set_option maxRecDepth 1000000
set_option maxHeartbeats 20000000
namespace Go.Proofs.YtihophdbkjhopaaDoor
open Go.RowKit
open Go.Value renaming int → vI
open Go.IntKind renaming u64 → vU
open Go.Act renaming put → aP
open List renaming setIfInBounds_toArray → lA, set_cons_zero → lZ, set_cons_succ → lS
section
variable {P : Program} {w0 : World} {Post : Value → World → Prop} {J : World → Prop} {Q : Exit → Act → World → Prop}
abbrev Nx (P : Program) (w0 : World) (Post : Value → World → Prop):=(J : World → Prop) → Sta P w0 Post J → Rsl
def isGoCall (o : Oper) : Bool:=match o.op with
 | .call c => match c.callee with
  | .builtin _ => false
  | _ => true
 | _ => false
def stAny (s : Sta P w0 Post J) (o : Oper) (k : Nx P w0 Post) : Rsl :=
 match s.q with
 | .hang f args val R _ _ _ _ r => bif isGoCall o then
   .eq (stR s o) (fun _ W => .ok (.enter f args) W) (.br fun x => Sta.put (J:=fun W => J W ∧ R x W) ⟨s.n,s.t,s.z,s.m,s.x,r x⟩ o.dst (.v (val x)) (k _))
  else stStep s o (k J)
 | _ => stStep s o (k J)
def stOpsH (ops : List Oper) : List Oper → (J : World → Prop) → Sta P w0 Post J → Nx P w0 Post → Rsl
 | [],J,s,k => k J s
 | o :: l,J,s,k => match stWant s ops o with
  | some true => stAny s o fun J' s1 => stOpsH ops l J' s1 k
  | some false => s.put o.dst (.v undef) fun s1 => stOpsH ops l J s1 k
  | none => .bad
theorem stany_sound {s : Sta P w0 Post J} {o : Oper} {k : Nx P w0 Post} {a : Act} {e : Nat → Nat} {w : World} (hk : OkR (stAny s o k)) (hR : Rl s a e w) {K : Act → World → Prop}
  (hK : ∀ (J' : World → Prop) (s' : Sta P w0 Post J') a' e' w',OkR (k J' s') → Rl s' a' e' w' → K a' w') : o.wp P a w K Q:=by
 unfold stAny at hk
 split at hk
 ·
  rename_i f args α val R V ext off ok r hq
  cases hg : isGoCall o with
  | false =>
   rw [hg] at hk
   exact zcp hk hR fun s' a' e' w' h1 h2 _ => hK _ s' a' e' w' h1 h2
  | true =>
   rw [hg] at hk
   obtain ⟨h1,h2⟩:=hk
   have hrun:=congrFun (congrFun h1 e) w
   unfold Oper.wp
   rw [hR.exec,hrun,Oper.upon_enter]
   refine (ok w hR.jj).mono ?_
   rintro _ W' ⟨x,rfl,hE,hx,hV⟩
   have hR2 : Rl (J:=fun W => J W ∧ R x W) ⟨s.n,s.t,s.z,s.m,s.x,r x⟩ a e W' :=
    ⟨hR.size,hR.defers,hR.slot,fun i b hb => hE.block (hR.blk i b hb),hR.own,hR.far,hR.ext.trans hE,⟨hR.jx _ _ hR.jj hE,hx⟩,fun W W2 h k => ⟨hR.jx _ _ h.1 k,ext x _ _ h.2 k⟩,
     fun i h1 h2 W o vs h => ⟨hR.jo i h1 h2 W o vs h.1,off x W _ o vs h.2 fun hv => by
      have h3:=(hV _ hv).1
      have h4:=hR.lt (i:=i) h2
      have h5:=hR.own i h1 h2
      omega⟩,
     fun g hg W o vs h => ⟨hR.jf g (Nat.le_trans (Below.size hE) hg) W o vs h.1,off x W g o vs h.2 fun hv => by
      have h3:=(hV _ hv).2
      omega⟩⟩
   obtain ⟨s',h3,h4,_⟩:=hR2.put (h2 x) rfl
   exact hK _ s' _ e W' h3 h4
 ·
  exact zcp hk hR fun s' a' e' w' h1 h2 _ => hK _ s' a' e' w' h1 h2
theorem stopsH_wp {ops : List Oper} {k : Nx P w0 Post} : ∀ {l : List Oper} {J : World → Prop} {s : Sta P w0 Post J} {a : Act} {e : Nat → Nat} {w : World},OkR (stOpsH ops l J s k) → Rl s a e w →
  (∀ (J' : World → Prop) (s' : Sta P w0 Post J') a' e' w',OkR (k J' s') → Rl s' a' e' w' → Q .normal a' w') → wpList P ops.toArray Q l a w
 | [],J,s,a,e,w,h,hR,hK => wpList_nil (hK J s a e w h hR)
 | o :: l,J,s,a,e,w,h,hR,hK => by
  unfold stOpsH at h
  refine wpList_step fun K hK' => ?_
  split at h
  ·
   rename_i hw
   rw [if_pos (zav hw hR)]
   exact stany_sound h hR fun J' s' a' e' w' h1 h2 => hK' _ _ (stopsH_wp h1 h2 hK)
  ·
   rename_i hw
   rw [if_neg (by rw [zav hw hR]; exact Bool.false_ne_true)]
   obtain ⟨s',h1,h2,_⟩:=hR.put h rfl
   exact hK' _ _ (stopsH_wp h1 h2 hK)
  ·
   exact h.elim
def casesN : Nat → OT P w0 Post J → (OT P w0 Post J → Rsl) → Rsl
 | 0,q,k => k q
 | f + 1,q,k => match q with
  | .cases p y n => .both (.br fun h : PLift p => casesN f (y h.down) k) (.br fun h : PLift (¬ p) => casesN f (n h.down) k)
  | .get p _ r => .br fun x : { x // p x } => casesN f (r x.1 x.2) k
  | q => k q
theorem zdf : ∀ {f : Nat} {q : OT P w0 Post J} {k : OT P w0 Post J → Rsl},OkR (casesN f q k) → ∃ q',OkR (k q')
 | 0,q,k,h => ⟨q,h⟩
 | f + 1,q,k,h => by
  unfold casesN at h
  split at h
  ·
   rename_i p y n
   by_cases hp : p
   ·
    exact zdf (h.1 ⟨hp⟩)
   ·
    exact zdf (h.2 ⟨hp⟩)
  ·
   rename_i α p hx r
   obtain ⟨x,hp⟩:=hx
   exact zdf (h ⟨x,hp⟩)
  ·
   exact ⟨_,h⟩
def same1 (a b : SV) (n : Rsl) : Rsl :=
 match a,b with
 | .v x,.v y => .eq (fun _ W => .ok (.value x) W) (fun _ W => .ok (.value y) W) n
 | .p i o,.p i' o' => bif Nat.beq i i' && Nat.beq o o' then n else .bad
 | _,_ => .bad
def sameL : List SV → List SV → Rsl → Rsl
 | [],[],n => n
 | a :: l,b :: l',n => same1 a b (sameL l l' n)
 | _,_,_ => .bad
def sameM : List Blk → List Blk → Rsl → Rsl
 | _,[],n => n
 | a :: l,b :: l',n => bif Nat.beq a.ty b.ty then sameL a.cs b.cs (sameM l l' n) else .bad
 | [],_ :: _,_ => .bad
def sameT (s : Sta P w0 Post J) : List (Nat × SV) → Rsl → Rsl
 | [],n => n
 | (j,b) :: r,n => same1 (lookZ s.z s.t j) b (sameT s r n)
def stSame (s : Sta P w0 Post J) (T : List (Nat × SV)) (M : List Blk) : Rsl:=sameT s T (sameM s.m M .done)
theorem same1_sound (e : Nat → Nat) (w : World) {a b : SV} {n : Rsl} (h : OkR (same1 a b n)) : a.den e = b.den e ∧ OkR n:=by
 unfold same1 at h
 split at h
 ·
  rename_i x y
  obtain ⟨h1,h2⟩:=h
  have h3:=congrFun (congrFun h1 e) w
  have h3 : x = y:=by simpa using h3
  exact ⟨h3,h2⟩
 ·
  rename_i i o i' o'
  cases hb : (Nat.beq i i' && Nat.beq o o') with
  | false => rw [hb] at h; exact h.elim
  | true =>
   rw [hb] at h
   simp only [Bool.and_eq_true] at hb
   rw [Nat.eq_of_beq_eq_true hb.1,Nat.eq_of_beq_eq_true hb.2]
   exact ⟨rfl,h⟩
 ·
  exact h.elim
theorem sameL_sound (e : Nat → Nat) (w : World) : ∀ {l l' : List SV} {n : Rsl},OkR (sameL l l' n) → l.map (SV.den e) = l'.map (SV.den e) ∧ OkR n
 | [],[],n,h => ⟨rfl,h⟩
 | a :: l,b :: l',n,h => by
  obtain ⟨h1,h2⟩:=same1_sound e w (show OkR (same1 a b (sameL l l' n)) from h)
  obtain ⟨h3,h4⟩:=sameL_sound e w h2
  exact ⟨by rw [List.map_cons,List.map_cons,h1,h3],h4⟩
 | [],_ :: _,_,h => h.elim
 | _ :: _,[],_,h => h.elim
theorem sameM_sound (e : Nat → Nat) (w : World) : ∀ {m M : List Blk} {n : Rsl},OkR (sameM m M n) → (∀ (i : Nat) b,M[i]? = some b → ∃ b',m[i]? = some b' ∧ b'.obj e = b.obj e) ∧ M.length ≤ m.length ∧ OkR n
 | m,[],n,h => ⟨fun i b hb => by simp at hb,Nat.zero_le _,by cases m <;> exact h⟩
 | a :: l,b :: l',n,h => by
  have h : OkR (bif Nat.beq a.ty b.ty then sameL a.cs b.cs (sameM l l' n) else .bad):=h
  cases hb : Nat.beq a.ty b.ty with
  | false => rw [hb] at h; exact h.elim
  | true =>
   rw [hb] at h
   obtain ⟨h1,h2⟩:=sameL_sound e w (show OkR (sameL a.cs b.cs (sameM l l' n)) from h)
   obtain ⟨h3,h4,h5⟩:=sameM_sound e w h2
   refine ⟨fun i c hc => ?_,by simpa using h4,h5⟩
   cases i with
   | zero =>
    obtain rfl : b = c:=by simpa using hc
    refine ⟨a,rfl,?_⟩
    unfold Blk.obj
    rw [h1,Nat.eq_of_beq_eq_true hb]
   | succ i => exact h3 i c (by simpa using hc)
 | [],_ :: _,_,h => h.elim
theorem sameT_sound {s : Sta P w0 Post J} (e : Nat → Nat) (w : World) : ∀ {T : List (Nat × SV)} {n : Rsl},OkR (sameT s T n) → (∀ x ∈ T,(lookZ s.z s.t x.1).den e = x.2.den e) ∧ OkR n
 | [],n,h => ⟨fun x hx => by simp at hx,h⟩
 | (j,b) :: r,n,h => by
  obtain ⟨h1,h2⟩:=same1_sound e w (show OkR (same1 (lookZ s.z s.t j) b (sameT s r n)) from h)
  obtain ⟨h3,h4⟩:=sameT_sound e w h2
  refine ⟨fun x hx => ?_,h4⟩
  rcases List.mem_cons.1 hx with rfl | hx
  ·
   exact h1
  ·
   exact h3 x hx
theorem lookZ_or {z : Nat → Value} {j : Nat} : ∀ (l : List (Nat × SV)),(∃ x ∈ l,x.1 = j ∧ lookZ z l j = x.2) ∨ lookZ z l j = .v (z j)
 | [] => .inr rfl
 | (i,y) :: r => by
  rw [zdv]
  by_cases h : j = i
  ·
   subst h
   exact .inl ⟨(j,y),List.mem_cons_self,rfl,if_pos rfl⟩
  ·
   rw [if_neg h]
   rcases lookZ_or r with ⟨x,h1,h2⟩ | h1
   ·
    exact .inl ⟨x,List.mem_cons_of_mem _ h1,h2⟩
   ·
    exact .inr h1
theorem rl_same {s : Sta P w0 Post J} {T : List (Nat × SV)} {M : List Blk} {q : OT P w0 Post J} {a : Act} {e : Nat → Nat} {w : World} (h : OkR (stSame s T M)) (hR : Rl s a e w) :
  Rl ⟨s.n,T,fun j => (lookZ s.z s.t j).den e,M,s.x,q⟩ a e w:=by
 obtain ⟨h1,h2⟩:=sameT_sound e w h
 obtain ⟨h3,h4,_⟩:=sameM_sound e w h2
 refine ⟨hR.size,hR.defers,fun j => ?_,fun i b hb => ?_,fun i h5 h6 => hR.own i h5 (Nat.lt_of_lt_of_le h6 h4),fun i j h5 h6 h7 h8 => hR.far i j h5 (Nat.lt_of_lt_of_le h6 h4) (Nat.lt_of_lt_of_le h7 h4) h8,hR.ext,hR.jj,hR.jx,fun i h5 h6 => hR.jo i h5 (Nat.lt_of_lt_of_le h6 h4),hR.jf⟩
 ·
  show _ = (lookZ _ T j).den e
  rw [hR.slot j]
  rcases lookZ_or (z:=fun j => (lookZ s.z s.t j).den e) (j:=j) T with ⟨x,hx,rfl,h5⟩ | h5
  ·
   rw [h5]
   exact h1 x hx
  ·
   rw [h5]
   rfl
 ·
  obtain ⟨b',h5,h6⟩:=h3 i b hb
  rw [← h6]
  exact hR.blk i b' h5
abbrev Nc (P : Program) (w0 : World) (Post : Value → World → Prop):=(J : World → Prop) → Xt → Sta P w0 Post J → Rsl
def rep (f : (J : World → Prop) → Sta P w0 Post J → Nc P w0 Post → Rsl) : Nat → (J : World → Prop) → Sta P w0 Post J → Nc P w0 Post → Rsl
 | 0,_,_,_ => .bad
 | n + 1,J,s,k => f J s fun J' x s1 => match x with
  | .normal => rep f n J' s1 k
  | .exit j => k J' (.exit j) s1
  | .ret => k J' .ret s1
def stC : Code → (J : World → Prop) → Sta P w0 Post J → Nc P w0 Post → Rsl
 | .skip,J,s,k => k J .normal s
 | .label _,J,s,k => k J .normal s
 | .region _ ops draw,J,s,k => casesN 4 s.q fun q => bif draw then stDraw ops.toList { s with q:=q } (fun s1 => k J .normal s1) else stOpsH ops.toList ops.toList J { s with q:=q } fun J' s1 => k J' .normal s1
 | .seq a b,J,s,k => stC a J s fun J' x s1 => match x with
  | .normal => stC b J' s1 k
  | .exit j => k J' (.exit j) s1
  | .ret => k J' .ret s1
 | .cond c a b,J,s,k => match stX s c with
  | .v (.bool true) => stC a J s k
  | .v (.bool false) => stC b J s k
  | _ => .bad
 | .block id c,J,s,k => stC c J s fun J' x s1 => match x with
  | .exit j => bif Nat.beq j id then k J' .normal s1 else k J' (.exit j) s1
  | .normal => k J' .normal s1
  | .ret => k J' .ret s1
 | .scope c,J,s,k => stC c J s k
 | .loop c,J,s,k => match s.q with
  | .loop T M μ H i _ body => .both (stSame s (T i) (M i)) (.br fun l : { l : Nat → Nat // H l } => .br fun z : Nat → Value => stC c J ⟨s.n,T l.1,z,M l.1,s.x,body l.1 l.2⟩ fun J' x s1 => match x with
   | .normal => match s1.q with
    | .next l' c' _ => bif Nat.beq s1.n s.n && Nat.beq s1.x s.x then .weq J' J (.peq c' (H l' ∧ μ l' < μ l.1) (stSame s1 (T l') (M l'))) else .bad
    | _ => .bad
   | .exit j => k J' (.exit j) s1
   | .ret => k J' .ret s1)
  | .loopG T M μ H _ _ t m _ body => .both (stSame s t m) (.br fun l : { l // H l } => .br fun z : Nat → Value => stC c J ⟨s.n,T l.1,z,M l.1,s.x,body l.1 l.2⟩ fun J' x s1 => match x with
   | .normal => match s1.q with
    | .nextG t' m' c' _ => bif Nat.beq s1.n s.n && Nat.beq s1.x s.x then .weq J' J (.peq c' (∃ l',(H l' ∧ μ l' < μ l.1) ∧ T l' = t' ∧ M l' = m') (stSame s1 t' m')) else .bad
    | _ => .bad
   | .exit j => k J' (.exit j) s1
   | .ret => k J' .ret s1)
  | .unroll n r => rep (fun J s k => stC c J s k) n J { s with q:=r } k
  | _ => .bad
 | .exit id,J,s,k => k J (.exit id) s
 | .ret,J,s,k => k J .ret s
 | _,_,_,_ => .bad
theorem zdg : ∀ {c : Code} {Q : Exit → Act → World → Prop} {J : World → Prop} {s : Sta P w0 Post J} {k : Nc P w0 Post} {a : Act} {e : Nat → Nat} {w : World},OkR (stC c J s k) → Rl s a e w →
  (∀ (J' : World → Prop) x (s' : Sta P w0 Post J') a' e' w',OkR (k J' x s') → Rl s' a' e' w' → Q x.to a' w') → c.wp P Q a w
 | .skip,Q,J,s,k,a,e,w,h,hR,hK => wp_skip (hK J .normal s a e w h hR)
 | .label _,Q,J,s,k,a,e,w,h,hR,hK => wp_label (hK J .normal s a e w h hR)
 | .region _ ops draw,Q,J,s,k,a,e,w,h,hR,hK => by
  unfold stC at h
  obtain ⟨q',h⟩:=zdf h
  have hR:=hR.q q'
  cases draw with
  | true => simpa using stdraw_wp (ops:=ops.toList) h hR fun s' a' e' w' h1 h2 => hK J .normal s' a' e' w' h1 h2
  | false => exact wp_region_list (by simpa using stopsH_wp (ops:=ops.toList) h hR fun J' s' a' e' w' h1 h2 => hK J' .normal s' a' e' w' h1 h2)
 | .seq a b,Q,J,s,k,a',e,w,h,hR,hK => by
  unfold stC at h
  refine wp_seq (zdg h hR fun J' x s1 a1 e1 w1 h1 h2 => ?_)
  cases x with
  | normal => exact zdg h1 h2 hK
  | exit j => exact hK J' (.exit j) s1 a1 e1 w1 h1 h2
  | ret => exact hK J' .ret s1 a1 e1 w1 h1 h2
 | .cond c x y,Q,J,s,k,a,e,w,h,hR,hK => by
  unfold stC at h
  have hc : a.eval c = (stX s c).den e:=by rw [hR.eval]
  split at h
  ·
   rename_i he
   rw [he] at hc
   exact wp_cond_true hc (zdg h hR hK)
  ·
   rename_i he
   rw [he] at hc
   exact wp_cond_false hc (zdg h hR hK)
  ·
   exact h.elim
 | .block id c,Q,J,s,k,a,e,w,h,hR,hK => by
  unfold stC at h
  refine wp_block (zdg h hR fun J' x s1 a1 e1 w1 h1 h2 => ?_)
  cases x with
  | normal => exact hK J' .normal s1 a1 e1 w1 h1 h2
  | ret => exact hK J' .ret s1 a1 e1 w1 h1 h2
  | exit j =>
   simp only at h1
   show (if j = id then Q .normal a1 w1 else Q (.exit j) a1 w1)
   cases hj : Nat.beq j id with
   | true =>
    rw [hj] at h1
    rw [if_pos (Nat.eq_of_beq_eq_true hj)]
    exact hK J' .normal s1 a1 e1 w1 h1 h2
   | false =>
    rw [hj] at h1
    rw [if_neg fun hh => by subst hh; simp at hj]
    exact hK J' (.exit j) s1 a1 e1 w1 h1 h2
 | .scope c,Q,J,s,k,a,e,w,h,hR,hK => by
  unfold stC at h
  refine wp_scope_straight (zdg h hR fun J' x s1 a1 e1 w1 h1 h2 => ?_)
  have:=hK J' x s1 a1 e1 w1 h1 h2
  cases x <;> exact this
 | .exit id,Q,J,s,k,a,e,w,h,hR,hK => wp_exit (hK J (.exit id) s a e w h hR)
 | .ret,Q,J,s,k,a,e,w,h,hR,hK => wp_ret (hK J .ret s a e w h hR)
 | .loop c,Q,J,s,k,a,e,w,h,hR,hK => by
  unfold stC at h
  split at h
  ·
   rename_i T M μ H i h0 body hq
   obtain ⟨h1,h2⟩:=h
   refine wp_loop_ghost (fun n a w => ∃ (l : { l : Nat → Nat // H l }) (z : Nat → Value) (e : Nat → Nat),μ l.1 = n ∧ Rl ⟨s.n,T l.1,z,M l.1,s.x,body l.1 l.2⟩ a e w) (μ i) ⟨⟨i,h0⟩,_,e,rfl,rl_same h1 hR⟩ fun n a w ⟨l,z,e,hn,hR⟩ => ?_
   refine zdg (h2 l z) hR fun J' x s' a' e' w' h3 h4 => ?_
   cases x with
   | normal =>
    simp only at h3
    split at h3
    ·
     rename_i l' c' hc hq'
     cases hb : (Nat.beq s'.n s.n && Nat.beq s'.x s.x) with
     | false => rw [hb] at h3; exact h3.elim
     | true =>
      rw [hb] at h3
      simp only [Bool.and_eq_true] at hb
      obtain ⟨hJ,hc2,h5⟩:=h3
      subst hJ
      have hc3 : H l' ∧ μ l' < μ l.1:=by rw [← hc2]; exact hc
      have h6:=rl_same (q:=body l' hc3.1) h5 h4
      rw [Nat.eq_of_beq_eq_true hb.1,Nat.eq_of_beq_eq_true hb.2] at h6
      exact show ∃ n',n' < n ∧ _ from ⟨μ l',by rw [← hn]; exact hc3.2,⟨l',hc3.1⟩,_,e',rfl,h6⟩
    ·
     exact h3.elim
   | exit j => exact hK J' (.exit j) s' a' e' w' h3 h4
   | ret => exact hK J' .ret s' a' e' w' h3 h4
  ·
   rename_i α T M μ H i h0 t m ht body hq
   obtain ⟨h1,h2⟩:=h
   obtain ⟨rfl,rfl⟩:=ht
   refine wp_loop_ghost (fun n a w => ∃ (l : { l // H l }) (z : Nat → Value) (e : Nat → Nat),μ l.1 = n ∧ Rl ⟨s.n,T l.1,z,M l.1,s.x,body l.1 l.2⟩ a e w) (μ i) ⟨⟨i,h0⟩,_,e,rfl,rl_same h1 hR⟩ fun n a w ⟨l,z,e,hn,hR⟩ => ?_
   refine zdg (h2 l z) hR fun J' x s' a' e' w' h3 h4 => ?_
   cases x with
   | normal =>
    simp only at h3
    split at h3
    ·
     rename_i t' m' c' hc hq'
     cases hb : (Nat.beq s'.n s.n && Nat.beq s'.x s.x) with
     | false => rw [hb] at h3; exact h3.elim
     | true =>
      rw [hb] at h3
      simp only [Bool.and_eq_true] at hb
      obtain ⟨hJ,hc2,h5⟩:=h3
      subst hJ
      have hc3 : ∃ l',(H l' ∧ μ l' < μ l.1) ∧ T l' = t' ∧ M l' = m':=by rw [← hc2]; exact hc
      obtain ⟨l',⟨hc4,hc5⟩,hT,hM⟩:=hc3
      have h6:=rl_same (q:=body l' hc4) h5 h4
      rw [Nat.eq_of_beq_eq_true hb.1,Nat.eq_of_beq_eq_true hb.2,← hT,← hM] at h6
      exact show ∃ n',n' < n ∧ _ from ⟨μ l',by rw [← hn]; exact hc5,⟨l',hc4⟩,_,e',rfl,h6⟩
    ·
     exact h3.elim
   | exit j => exact hK J' (.exit j) s' a' e' w' h3 h4
   | ret => exact hK J' .ret s' a' e' w' h3 h4
  ·
   rename_i n r hq
   refine wp_loop_rounds n ?_
   have hR:=hR.q r
   have key : ∀ (n : Nat) (J : World → Prop) (s : Sta P w0 Post J) a e w,OkR (rep (fun J s k => stC c J s k) n J s k) → Rl s a e w → Code.rounds P c Q n a w:=by
    intro n
    induction n with
    | zero => intro J s a e w h _; exact h.elim
    | succ n ih =>
     intro J s a e w h hR
     rw [rounds_succ]
     refine zdg h hR fun J' x s' a' e' w' h3 h4 => ?_
     cases x with
     | normal => exact ih J' s' a' e' w' h3 h4
     | exit j => exact hK J' (.exit j) s' a' e' w' h3 h4
     | ret => exact hK J' .ret s' a' e' w' h3 h4
   exact key n J _ a e w h hR
  ·
   exact h.elim
 | .rangeFunc _ _ _ _,_,_,_,_,_,_,_,h,_,_ => h.elim
 | .goto _,_,_,_,_,_,_,_,h,_,_ => h.elim
 | .refuse _,_,_,_,_,_,_,_,h,_,_ => h.elim
/-! ### results -/
def stRV (s : Sta P w0 Post J) : ResultVar → Option Value
 | .tmp t => match lookZ s.z s.t t with
  | .v x => some x
  | .p _ _ => none
 | .cell t ty => match lookZ s.z s.t t with
  | .p i off => match s.m[i]?,P.underlying ty with
   | some b,some d => bif isRowT d then
     match P.info? ty with
     | some inf => match toVals ((b.cs.drop off).take inf.size) with
      | some vs => bif Nat.beq vs.length inf.size then some (.agg vs.toArray) else none
      | none => none
     | none => none
    else match b.cs[off]? with
     | some (.v x) => some x
     | _ => none
   | _,_ => none
  | .v _ => none
theorem zby {s : Sta P w0 Post J} {r : ResultVar} {v : Value} {a : Act} {e : Nat → Nat} {w : World} (h : stRV s r = some v) (hR : Rl s a e w) : (rvRun a.tmps r).run P w = .ok v w:=by
 cases r with
 | tmp t =>
  unfold stRV at h
  simp only at h
  split at h
  ·
   rename_i x hx
   injection h with h
   subst h
   show (pure (a.tmps.getD t undef) : Sem Value).run P w = _
   rw [hR.slot t,hx]
   exact Sem.run_pure ..
  ·
   cases h
 | cell t ty =>
  unfold stRV at h
  simp only at h
  split at h
  ·
   rename_i i off hx
   have ha : a.tmps.getD t undef = .pointer (some ⟨e i,off,none⟩):=by rw [hR.slot t,hx]; rfl
   have hrun : (rvRun a.tmps (.cell t ty)).run P w = (loadVar ty ⟨e i,off,none⟩).run P w:=by
    show (do loadVar ty (← asAddr (a.tmps.getD t undef)) : Sem Value).run P w = _
    rw [ha]
    simp [asAddr]
   rw [hrun]
   split at h
   ·
    rename_i b d hb hu
    have hblk:=hR.blk i b hb
    cases hd : isRowT d with
    | true =>
     rw [hd] at h
     simp only [cond_true] at h
     split at h
     ·
      rename_i inf hi
      split at h
      ·
       rename_i vs hvs
       cases hl : Nat.beq vs.length inf.size with
       | false => rw [hl] at h; cases h
       | true =>
        rw [hl] at h
        have hlen:=Nat.eq_of_beq_eq_true hl
        obtain rfl : Value.agg vs.toArray = v:=by simpa using h
        refine run_loadVar_mid w (e i) off ty vs d (fun j u hu => ?_) hu (by cases d <;> simp_all [isRowT]) (by rw [hi]; simp [hlen])
        have hj : j < vs.length:=(List.getElem?_eq_some_iff.1 hu).1
        rw [cell_of_row w (e i) (off + j) _ _ _ hblk]
        have hm:=zfe (e:=e) hvs
        rw [← hm,← hlen,List.getElem?_map,List.getElem?_take_of_lt (by omega),List.getElem?_drop] at hu
        simpa using hu
      ·
       cases h
     ·
      cases h
    | false =>
     rw [hd] at h
     simp only [cond_false] at h
     split at h
     ·
      rename_i x hc
      obtain rfl : x = v:=by simpa using h
      have hcell : w.cell? ⟨e i,off,none⟩ = some x:=by
       rw [cell_of_row w (e i) off _ _ _ hblk]
       simp [hc,SV.den]
      have hl : (load ⟨e i,off,none⟩).run P w = .ok x w:=by simp [go_sem,hcell]
      simp only [loadVar,Sem.run_bind,agg_no hu hd w,Result.andThen_ok,Bool.false_eq_true,if_false,hl]
     ·
      cases h
   ·
    cases h
  ·
   cases h
def stRes (s : Sta P w0 Post J) (fn : Func) : Option Value :=
 match fn.results.toList with
 | [a] => stRV s a
 | [a,b] => match stRV s a,stRV s b with
  | some x,some y => some (.tuple #[x,y])
  | _,_ => none
 | [a,b,c] => match stRV s a,stRV s b,stRV s c with
  | some x,some y,some z => some (.tuple #[x,y,z])
  | _,_,_ => none
 | _ => none
theorem stres_sound {s : Sta P w0 Post J} {fn : Func} {v : Value} {a : Act} {e : Nat → Nat} {w : World} (h : stRes s fn = some v) (hR : Rl s a e w) : (results fn a.tmps).run P w = .ok v w:=by
 rw [results_rv]
 unfold stRes at h
 split at h
 ·
  rename_i x hx
  have hx : fn.results = #[x]:=by apply Array.toList_inj.1; simpa using hx
  have hr:=zby h hR
  rw [hx]
  simp [hr]
 ·
  rename_i x y hx
  have hx : fn.results = #[x,y]:=by apply Array.toList_inj.1; simpa using hx
  split at h
  ·
   rename_i u v h1 h2
   injection h with h
   subst h
   have hr1:=zby h1 hR
   have hr2:=zby h2 hR
   rw [hx]
   simp [hr1,hr2]
  ·
   cases h
 ·
  rename_i x y z hx
  have hx : fn.results = #[x,y,z]:=by apply Array.toList_inj.1; simpa using hx
  split at h
  ·
   rename_i u v t h1 h2 h3
   injection h with h
   subst h
   have hr1:=zby h1 hR
   have hr2:=zby h2 hR
   have hr3:=zby h3 hR
   rw [hx]
   simp [hr1,hr2,hr3]
  ·
   cases h
 ·
  cases h
def wayEnd (fn : Func) : Nc P w0 Post:=fun _ x s => match x with
 | .exit _ => .bad
 | _ => match stRes s fn,s.q with
  | some u,.ret v _ => .eq (fun _ W => .ok (.value u) W) (fun _ W => .ok (.value v) W) .done
  | _,_ => .bad
def wayRes (fn : Func) (args : List SV) (m : List Blk) (q : OT P w0 Post (Ext w0)) : Rsl :=
 match fn.body with
 | some c => stC c (Ext w0) ⟨args.length + (fn.ntmps - args.length),enumS 0 args,fun _ => undef,m,m.length,q⟩ (wayEnd fn)
 | none => .bad
theorem enum_lookZ : ∀ (l : List SV) (k i : Nat),lookZ (fun _ => undef) (enumS k l) i = if k ≤ i then l.getD (i - k) (.v undef) else .v undef
 | [],k,i => by
  show SV.v undef = _
  split <;> simp
 | x :: r,k,i => by
  show lookZ _ ((k,x) :: enumS (k + 1) r) i = _
  rw [zdv,enum_lookZ r (k + 1) i]
  by_cases h : i = k
  ·
   subst h
   rw [if_pos rfl,if_pos (Nat.le_refl _),Nat.sub_self]
   rfl
  ·
   rw [if_neg h]
   by_cases h2 : k ≤ i
   ·
    rw [if_pos (by omega),if_pos h2,show i - k = (i - (k + 1)) + 1 by omega]
    rfl
   ·
    rw [if_neg (by omega),if_neg h2]
theorem way {f : FuncId} {fn : Func} {w : World} (hf : P.funcs[f]? = some fn) (args : List SV) (m : List Blk) (e : Nat → Nat) (q : OT P w Post (Ext w))
  (hm : ∀ (i : Nat) b,m[i]? = some b → w.heap[e i]? = some (b.obj e)) (chk : (wayRes fn args m q).left = (wayRes fn args m q).right) :
  Calls P f (args.map (SV.den e)).toArray w fun e' w' => ∃ v,e' = .returned v ∧ Post v w':=by
 have hl:=zfj chk
 unfold wayRes at hl
 split at hl
 ·
  rename_i c hc
  refine calls_of_wp hf hc (zdg (e:=e) hl ?_ ?_)
  ·
   refine ⟨by simp,rfl,fun i => ?_,hm,fun i h1 h2 => ?_,fun i j h1 h2 h3 h4 => ?_,Ext.refl w,Ext.refl w,fun W W' h k => h.trans k,fun i h1 h2 => ?_,fun g hg W o vs h => cells_ext vs o h hg⟩
   ·
    show _ = (lookZ _ (enumS 0 args) i).den e
    rw [enum_lookZ,if_pos (Nat.zero_le _),Nat.sub_zero]
    by_cases hi : i < args.length
    ·
     simp [Array.getD_eq_getD_getElem?,Array.getElem?_append,hi,List.getD_eq_getElem?_getD]
    ·
     simp [Array.getD_eq_getD_getElem?,Array.getElem?_append,hi,List.getD_eq_getElem?_getD,Array.getElem?_replicate,SV.den]
     split <;> rfl
   ·
    have h1 : m.length ≤ i:=h1
    have h2 : i < m.length:=h2
    omega
   ·
    have h1 : m.length ≤ i:=h1
    have h2 : i < m.length:=h2
    omega
   ·
    have h1 : m.length ≤ i:=h1
    have h2 : i < m.length:=h2
    omega
  ·
   intro J' x s a' e' w' h1 h2
   have fin : (∃ u,stRes s fn = some u) → bodyPost P fn (fun e' w' => ∃ v,e' = .returned v ∧ Post v w') x.to a' w':=fun ⟨u,hu⟩ => by
    have hres:=stres_sound hu h2
    cases x with
    | exit id => exact h1.elim
    | normal =>
     unfold wayEnd at h1
     rw [hu] at h1
     simp only at h1
     split at h1
     ·
      rename_i u' v hp he hq
      have huv:=congrFun (congrFun h1.1 e') w'
      have huv : u' = v:=by simpa using huv
      injection he with he
      subst he
      exact ⟨h2.defers,_,hres,_,rfl,by rw [huv]; exact hp _ h2.jj⟩
     ·
      exact h1.elim
    | ret =>
     unfold wayEnd at h1
     rw [hu] at h1
     simp only at h1
     split at h1
     ·
      rename_i u' v hp he hq
      have huv:=congrFun (congrFun h1.1 e') w'
      have huv : u' = v:=by simpa using huv
      injection he with he
      subst he
      exact ⟨h2.defers,_,hres,_,rfl,by rw [huv]; exact hp _ h2.jj⟩
     ·
      exact h1.elim
   cases hu : stRes s fn with
   | some u => exact fin ⟨u,hu⟩
   | none =>
    cases x with
    | exit id => exact h1.elim
    | normal => unfold wayEnd at h1; rw [hu] at h1; exact h1.elim
    | ret => unfold wayEnd at h1; rw [hu] at h1; exact h1.elim
 ·
  exact hl.elim
def binK (op : BinOp) (T : TypeId) (X Y : Operand) (x y : Value) : Sem Value:=do eqGuard op T X Y x y; binOp op T x y
theorem zcj {op : BinOp} {T : TypeId} {X Y : Operand} {x y r : Value} {W : World} (hg : (eqGuard op T X Y x y).run P W = .ok () W) (hb : (binOp op T x y).run P W = .ok r W) : (binK op T X Y x y).run P W = .ok r W:=by
 unfold binK
 simp only [Sem.run_bind,hg,Result.andThen_ok,hb]
theorem zgf {T : TypeId} {X Y : Operand} {c : Int} {v : Bool} (h : decide (0 ≤ c) = v) (W : World) : (binK .geq T X Y (.int .i64 c) (.int .i64 0)).run P W = .ok (.bool v) W:=by
 subst h
 unfold binK
 simp [go_sem,eqGuard]
theorem neq_run {T : TypeId} {X Y : Operand} {c d : Int} (h : ¬ c = d) (W : World) : (binK .neq T X Y (.int .i64 c) (.int .i64 d)).run P W = .ok (.bool true) W:=by
 unfold binK
 simp [go_sem,eqGuard,h]
theorem way0 {f : FuncId} {fn : Func} {w : World} (hf : P.funcs[f]? = some fn) (args : List Value) (q : OT P w Post (Ext w)) (chk : (wayRes fn (args.map SV.v) [] q).left = (wayRes fn (args.map SV.v) [] q).right) :
  Calls P f args.toArray w fun e' w' => ∃ v,e' = .returned v ∧ Post v w':=by
 have h:=way hf (args.map SV.v) [] (fun _ => 0) q (fun i b hb => by cases hb) chk
 rw [List.map_map] at h
 have e : (SV.den fun _ => 0) ∘ SV.v = id:=rfl
 rwa [e,List.map_id] at h
theorem way1 {f : FuncId} {fn : Func} {w : World} (hf : P.funcs[f]? = some fn) (args : List Value) {V : Value} (q : OT P w (fun v W => v = V ∧ Ext w W) (Ext w)) (chk : (wayRes fn (args.map SV.v) [] q).left = (wayRes fn (args.map SV.v) [] q).right) :
  Calls P f args.toArray w fun e' w' => e' = .returned V ∧ Ext w w' :=
 (way0 hf args q chk).mono fun _ _ ⟨_,he,hv,hE⟩ => ⟨by rw [he,hv],hE⟩
end
section
variable {P : Program} {T : TypeId} {X Y : Operand} {W : World}
theorem pred_run {a b : Int} (h : a - 1 = b) (h0 : 0 ≤ a) (h1 : a < 4294967296) : (binK .sub T X Y (.int .i64 a) (.int .i64 1)).run P W = .ok (.int .i64 b) W:=by
 subst h
 unfold binK
 simp [go_sem,eqGuard]
 exact IntWalk.i64_in _ (by omega)
theorem lss_run {c d : Int} {v : Bool} (h : decide (c < d) = v) : (binK .lss T X Y (.int .i64 c) (.int .i64 d)).run P W = .ok (.bool v) W:=by
 subst h
 unfold binK
 simp [go_sem,eqGuard]
end
def lst (l : List Nat) : Nat → Nat:=fun k => l.getD k 0
def cN (n : Nat) : List SV:=[.v (.int .u64 (wd n 0)),.v (.int .u64 (wd n 1)),.v (.int .u64 (wd n 2)),.v (.int .u64 (wd n 3))]
def cZ : List SV:=[.v (.int .u64 0),.v (.int .u64 0),.v (.int .u64 0),.v (.int .u64 0)]
theorem add64 (x y c : Int) (hx : 0 ≤ x) (hy : 0 ≤ y) (hc0 : 0 ≤ c) (hc : c ≤ 1) (w : World) :
  (callFunc 82 #[vI vU x,vI vU y,vI vU c]).run Tryd.prog w = .ok (.value (.tuple #[vI vU ((x + y + c) % 18446744073709551616),vI vU ((x + y + c) / 18446744073709551616)])) w:=by
 rw [run_callFunc_extern Tryd.func82 (by kernel_rfl) (by kernel_rfl) (by kernel_rfl) (e:=add64Entry) (by kernel_rfl),run_add64 x y c hx hy hc0 hc]
 rfl
def cyI (X Y i : Nat) : Int:=(cy w64 X Y i : Nat)
theorem add64_at (X Y k : Nat) (w : World) :
  (callFunc 82 #[vI vU (wd X k),vI vU (wd Y k),vI vU (cyI X Y k)]).run Tryd.prog w = .ok (.value (.tuple #[vI vU (wd (X + Y) k),vI vU (cyI X Y (k + 1))])) w:=by
 have hc:=cy_le zam X Y k
 rw [add64 _ _ _ (wd_lo _ _) (wd_lo _ _) (by unfold cyI; omega) (by unfold cyI; omega)]
 unfold wd cyI
 rw [cy_succ zam,dg_add zam]
 unfold w64
 simp
theorem cyI_top {X Y : Nat} (hX : X < top) (hY : Y < top) : (cyI X Y 4 != 0) = decide (top ≤ X + Y):=by
 unfold cyI
 rw [cy_top (n:=4) hX hY]
 show _ = decide (w64 ^ 4 ≤ X + Y)
 by_cases h : w64 ^ 4 ≤ X + Y <;> simp [h]
theorem add_any (X Y : Nat) (hX : X < top) (hY : Y < top) (w : World) :
  Calls Tryd.prog 65 #[.agg #[vI vU (wd X 0),vI vU (wd X 1),vI vU (wd X 2),vI vU (wd X 3)],.agg #[vI vU (wd Y 0),vI vU (wd Y 1),vI vU (wd Y 2),vI vU (wd Y 3)]] w fun e w' =>
   e = .returned (.tuple #[.agg #[vI vU (wd (X + Y) 0),vI vU (wd (X + Y) 1),vI vU (wd (X + Y) 2),vI vU (wd (X + Y) 3)],.bool (decide (top ≤ X + Y))]) ∧ Below w.heap.size w w':=by
 have h29:=fun (k : Nat) (W : World) => add64_at X Y k W
 go_enter Tryd.func65,Tryd.ntmps65
 go_wp2
 go_loopw [7,9] (fun c i wr => ∃ k : Nat,k ≤ 4 ∧ i = .int .i64 k ∧ c = .int .u64 (cyI X Y k) ∧ wr.rowIs w.heap.size 25 4 (fun j => .int .u64 (wd X j))
   ∧ wr.rowIs (w.heap.size + 1) 25 4 (fun j => .int .u64 (wd Y j)) ∧ wr.rowIs (w.heap.size + 1 + 1) 25 4 (fun _ => .int .u64 0)
   ∧ wr.rowIs (w.heap.size + 1 + 1 + 1) 25 4 (fun j => .int .u64 (if j < k then wd (X + Y) j else 0)) ∧ Below w.heap.size w wr)
  (fun _ i _ => 4 - (intOf i).toNat)
 case atStart => exact ⟨0,by omega,rfl,by simp [cyI,cy_zero],(((zad (n:=4) (by simp) rfl (arr4 fun j => .int .u64 (wd X j))).alloc _).alloc _).alloc _,((zad (n:=4) (by simp) rfl (arr4 fun j => .int .u64 (wd Y j))).alloc _).alloc _,(zad (n:=4) (by simp) rfl (arr4 fun _ => .int .u64 0)).alloc _,zad (n:=4) (by simp) rfl (arr4 fun _ => .int .u64 0),((((Below.refl _ _).alloc (by simp) _).alloc (by simp) _).alloc (by simp; omega) _).alloc (by simp; omega) _⟩
 case round =>
  obtain ⟨k,hk,rfl,rfl,hRX,hRY,hRZ,hRS,hbel⟩:=hrel
  by_cases hlt : k < 4
  ·
   have c1:=hRX.cell hlt
   have c2:=hRY.cell hlt
   have c3:=hRS.cell hlt
   have f3:=hRS.frozen k
   go_wp2
   go_region_with (fail)
   all_goals
    go_wp2
    go_roundw
    case rel => exact ⟨k + 1,by omega,by go_num,rfl,(zan hRX (by omega) _).drew,(zan hRY (by omega) _).drew,(zan hRZ (by omega) _).drew,((hRS.set k _).congr (row_step hlt)).drew,(zab hbel (by omega) _).drew⟩
    case measure => simp [intOf]; omega
  ·
   obtain rfl : k = 4:=by omega
   obtain ⟨c0,c1,c2,c3⟩:=zaf hRS
   obtain ⟨d0,d1,d2,d3⟩:=zaf hRZ
   obtain ⟨f0,f1,f2,f3⟩:=zaw hRZ
   simp only [show (0 : Nat) < 4 from by omega,show (1 : Nat) < 4 from by omega,show (2 : Nat) < 4 from by omega,show (3 : Nat) < 4 from by omega,if_true] at c0 c1 c2 c3
   clear hRX hRY hRS
   have hz:=cyI_top hX hY
   go_wp2
   refine bodyPost_ret (zbv rfl _ _ (w.heap.size + 1 + 1) 25 #[vI vU (wd (X + Y) 0),vI vU (wd (X + Y) 1),vI vU (wd (X + Y) 2),vI vU (wd (X + Y) 3)] (0,0) 4 23 rfl (blk4 (put4 hRZ fun j => .int .u64 (wd (X + Y) j))) Tryd.underlying25 (by kernel_rfl)) rfl ⟨?_,zap hbel (by omega) _ _ _ _⟩
   rfl
theorem add_calls (X Y : Nat) (hX : X < top) (hY : Y < top) (w : World) :
  Calls Tryd.prog 65 #[.agg #[vI vU (wd X 0),vI vU (wd X 1),vI vU (wd X 2),vI vU (wd X 3)],.agg #[vI vU (wd Y 0),vI vU (wd Y 1),vI vU (wd Y 2),vI vU (wd Y 3)]] w fun e w' => e = .returned (.tuple #[.agg #[vI vU (wd ((X + Y) % top) 0),vI vU (wd ((X + Y) % top) 1),vI vU (wd ((X + Y) % top) 2),vI vU (wd ((X + Y) % top) 3)],.bool (decide (top ≤ X + Y))]) ∧ Below w.heap.size w w':=by
 rw [zeb _ 0 (by omega),zeb _ 1 (by omega),zeb _ 2 (by omega),zeb _ 3 (by omega)]
 exact add_any X Y hX hY w
def sub64Entry : Array Value → Sem Value:=fun args => do
 let (x,y,b) ← Extern.MathBitsCarry.three "Sub64" args
 pure (Extern.MathBitsCarry.pair ((x + Extern.MathBitsCarry.m64 - y - b) % Extern.MathBitsCarry.m64) (if x < y + b then 1 else 0))
theorem run_sub64 (x y b : Nat) (hb : b ≤ 1) (w : World) :
  (sub64Entry #[vI vU (x : Int),vI vU (y : Int),vI vU (b : Int)]).run Tryd.prog w =
   .ok (.tuple #[vI vU (((x + w64 - y - b) % w64 : Nat) : Int),vI vU ((if x < y + b then 1 else 0 : Nat) : Int)]) w:=by
 have : b = 0 ∨ b = 1:=by omega
 rcases this with rfl | rfl <;> rfl
theorem sub64 (x y b : Nat) (hb : b ≤ 1) (w : World) :
  (callFunc 66 #[vI vU (x : Int),vI vU (y : Int),vI vU (b : Int)]).run Tryd.prog w = .ok (.value (.tuple #[vI vU (((x + w64 - y - b) % w64 : Nat) : Int),vI vU ((if x < y + b then 1 else 0 : Nat) : Int)])) w:=by
 rw [run_callFunc_extern Tryd.func66 (by kernel_rfl) (by kernel_rfl) (by kernel_rfl) (e:=sub64Entry) (by kernel_rfl),run_sub64 x y b hb]
 rfl
def bwI (X Y i : Nat) : Int:=(bw w64 X Y i : Nat)
theorem sub64_at (X Y k : Nat) (hk : k < 4) (hY : Y ≤ top) (w : World) :
  (callFunc 66 #[vI vU (wd X k),vI vU (wd Y k),vI vU (bwI X Y k)]).run Tryd.prog w = .ok (.value (.tuple #[vI vU (wd (X + top - Y) k),vI vU (bwI X Y (k + 1))])) w:=by
 unfold wd bwI
 rw [sub64 _ _ _ (bw_le w64 X Y k)]
 unfold top at hY ⊢
 rw [bw_succ zam,dg_sub zam X Y 4 k hk hY]
theorem bwI_top {X Y : Nat} (hX : X < top) (hY : Y < top) : (bwI X Y 4 != 0) = decide (X < Y):=by
 unfold bwI
 rw [bw_top (n:=4) hX hY]
 by_cases h : X < Y <;> simp [h]
theorem sub_any (X Y : Nat) (hX : X < top) (hY : Y < top) (w : World) :
  Calls Tryd.prog 42 #[.agg #[vI vU (wd X 0),vI vU (wd X 1),vI vU (wd X 2),vI vU (wd X 3)],.agg #[vI vU (wd Y 0),vI vU (wd Y 1),vI vU (wd Y 2),vI vU (wd Y 3)]] w fun e w' =>
   e = .returned (.tuple #[.agg #[vI vU (wd (X + top - Y) 0),vI vU (wd (X + top - Y) 1),vI vU (wd (X + top - Y) 2),vI vU (wd (X + top - Y) 3)],.bool (decide (X < Y))]) ∧ Below w.heap.size w w':=by
 go_enter Tryd.func42,Tryd.ntmps42
 go_wp2
 go_loopw [7,9] (fun c i wr => ∃ k : Nat,k ≤ 4 ∧ i = .int .i64 k ∧ c = .int .u64 (bwI X Y k) ∧ wr.rowIs w.heap.size 25 4 (fun j => .int .u64 (wd X j))
   ∧ wr.rowIs (w.heap.size + 1) 25 4 (fun j => .int .u64 (wd Y j)) ∧ wr.rowIs (w.heap.size + 1 + 1) 25 4 (fun _ => .int .u64 0)
   ∧ wr.rowIs (w.heap.size + 1 + 1 + 1) 25 4 (fun j => .int .u64 (if j < k then wd (X + top - Y) j else 0)) ∧ Below w.heap.size w wr)
  (fun _ i _ => 4 - (intOf i).toNat)
 case atStart => exact ⟨0,by omega,rfl,by simp [bwI,bw_zero],(((zad (n:=4) (by simp) rfl (arr4 fun j => .int .u64 (wd X j))).alloc _).alloc _).alloc _,((zad (n:=4) (by simp) rfl (arr4 fun j => .int .u64 (wd Y j))).alloc _).alloc _,(zad (n:=4) (by simp) rfl (arr4 fun _ => .int .u64 0)).alloc _,zad (n:=4) (by simp) rfl (arr4 fun _ => .int .u64 0),((((Below.refl _ _).alloc (by simp) _).alloc (by simp) _).alloc (by simp; omega) _).alloc (by simp; omega) _⟩
 case round =>
  obtain ⟨k,hk,rfl,rfl,hRX,hRY,hRZ,hRS,hbel⟩:=hrel
  by_cases hlt : k < 4
  ·
   have c1:=hRX.cell hlt
   have c2:=hRY.cell hlt
   have c3:=hRS.cell hlt
   have f3:=hRS.frozen k
   have h30:=fun (W : World) => sub64_at X Y k hlt (Nat.le_of_lt hY) W
   go_wp2
   go_region_with (fail)
   all_goals
    go_wp2
    go_roundw
    case rel => exact ⟨k + 1,by omega,by go_num,rfl,(zan hRX (by omega) _).drew,(zan hRY (by omega) _).drew,(zan hRZ (by omega) _).drew,((hRS.set k _).congr (row_step hlt)).drew,(zab hbel (by omega) _).drew⟩
    case measure => simp [intOf]; omega
  ·
   obtain rfl : k = 4:=by omega
   obtain ⟨c0,c1,c2,c3⟩:=zaf hRS
   obtain ⟨d0,d1,d2,d3⟩:=zaf hRZ
   obtain ⟨f0,f1,f2,f3⟩:=zaw hRZ
   simp only [show (0 : Nat) < 4 from by omega,show (1 : Nat) < 4 from by omega,show (2 : Nat) < 4 from by omega,show (3 : Nat) < 4 from by omega,if_true] at c0 c1 c2 c3
   clear hRX hRY hRS
   have hz:=bwI_top hX hY
   go_wp2
   refine bodyPost_ret (zbv rfl _ _ (w.heap.size + 1 + 1) 25 #[vI vU (wd (X + top - Y) 0),vI vU (wd (X + top - Y) 1),vI vU (wd (X + top - Y) 2),vI vU (wd (X + top - Y) 3)] (0,0) 4 23 rfl (blk4 (put4 hRZ fun j => .int .u64 (wd (X + top - Y) j))) Tryd.underlying25 (by kernel_rfl)) rfl ⟨?_,zap hbel (by omega) _ _ _ _⟩
   rfl
theorem sub_calls (X Y : Nat) (hX : X < top) (hY : Y < top) (w : World) :
  Calls Tryd.prog 42 #[.agg #[vI vU (wd X 0),vI vU (wd X 1),vI vU (wd X 2),vI vU (wd X 3)],.agg #[vI vU (wd Y 0),vI vU (wd Y 1),vI vU (wd Y 2),vI vU (wd Y 3)]] w fun e w' => e = .returned (.tuple #[.agg #[vI vU (wd ((X + top - Y) % top) 0),vI vU (wd ((X + top - Y) % top) 1),vI vU (wd ((X + top - Y) % top) 2),vI vU (wd ((X + top - Y) % top) 3)],.bool (decide (X < Y))]) ∧ Below w.heap.size w w':=by
 rw [zeb _ 0 (by omega),zeb _ 1 (by omega),zeb _ 2 (by omega),zeb _ 3 (by omega)]
 exact sub_any X Y hX hY w
def cmpN (X Y : Nat) : Int:=if X < Y then -1 else if Y < X then 1 else 0
theorem cmp_step (B X Y k : Nat) (hB : 0 < B) : cmpN (X % B ^ (k + 1)) (Y % B ^ (k + 1)) = if dg B X k < dg B Y k then -1 else if dg B Y k < dg B X k then 1 else cmpN (X % B ^ k) (Y % B ^ k):=by
 have hp : 0 < B ^ k:=Nat.pow_pos hB
 have h1:=Nat.mod_lt X hp
 have h2:=Nat.mod_lt Y hp
 unfold cmpN
 rw [zay,zay]
 generalize dg B X k = x
 generalize dg B Y k = y
 generalize X % B ^ k = r at *
 generalize Y % B ^ k = s at *
 generalize B ^ k = P at *
 by_cases hxy : x < y
 ·
  have : P * x + P ≤ P * y:=by rw [← Nat.mul_succ]; exact Nat.mul_le_mul_left _ hxy
  rw [if_pos (by omega),if_pos hxy]
 ·
  by_cases hyx : y < x
  ·
   have : P * y + P ≤ P * x:=by rw [← Nat.mul_succ]; exact Nat.mul_le_mul_left _ hyx
   rw [if_neg (by omega),if_pos (by omega),if_neg hxy,if_pos hyx]
  ·
   have hxy' : x = y:=by omega
   subst hxy'
   simp
theorem cmp_high (B X Y n m : Nat) (hB : 0 < B) (hX : X < B ^ n) (hY : Y < B ^ n) (hm : m < n) (h : ∀ j,m < j → j < n → dg B X j = dg B Y j) (hne : dg B X m ≠ dg B Y m) :
  cmpN X Y = if dg B X m < dg B Y m then -1 else 1:=by
 have e : X / B ^ (m + 1) = Y / B ^ (m + 1):=by
  have hn : B ^ n = B ^ (m + 1) * B ^ (n - (m + 1)):=by rw [← Nat.pow_add]; congr 1; omega
  refine eq_of_dg_lt hB (n:=n - (m + 1)) ?_ ?_ fun i hi => ?_
  ·
   rw [Nat.div_lt_iff_lt_mul (Nat.pow_pos hB),Nat.mul_comm,← hn]; exact hX
  ·
   rw [Nat.div_lt_iff_lt_mul (Nat.pow_pos hB),Nat.mul_comm,← hn]; exact hY
  ·
   have:=h (m + 1 + i) (by omega) (by omega)
   unfold dg at *
   rwa [Nat.div_div_eq_div_mul,Nat.div_div_eq_div_mul,← Nat.pow_add]
 have c : cmpN X Y = cmpN (X % B ^ (m + 1)) (Y % B ^ (m + 1)):=by
  have hx:=Nat.mod_add_div X (B ^ (m + 1))
  have hy:=Nat.mod_add_div Y (B ^ (m + 1))
  rw [e] at hx
  unfold cmpN
  generalize B ^ (m + 1) * (Y / B ^ (m + 1)) = q at *
  generalize X % B ^ (m + 1) = r at *
  generalize Y % B ^ (m + 1) = s at *
  subst hx; subst hy
  simp
 rw [c,cmp_step B X Y m hB]
 by_cases hlt : dg B X m < dg B Y m
 ·
  rw [if_pos hlt,if_pos hlt]
 ·
  rw [if_neg hlt,if_neg hlt,if_pos (by omega)]
theorem compare_lt (x y : Int) (h : x < y) (w : World) : Calls Tryd.prog 62 #[vI vU x,vI vU y] w fun e w' => e = .returned (.int .i64 (-1)) ∧ w' = w:=by
 go_enter Tryd.func62,Tryd.ntmps62
 go_wp2
 go_ret
 exact ⟨rfl,rfl⟩
theorem compare_gt (x y : Int) (h : y < x) (w : World) : Calls Tryd.prog 62 #[vI vU x,vI vU y] w fun e w' => e = .returned (.int .i64 1) ∧ w' = w:=by
 go_enter Tryd.func62,Tryd.ntmps62
 go_wp2
 go_ret
 exact ⟨rfl,rfl⟩
theorem wd_cmp {X Y k : Nat} (h : dg w64 X k < dg w64 Y k) : wd X k < wd Y k:=by unfold wd; omega
theorem cmp_calls (X Y : Nat) (hX : X < top) (hY : Y < top) (w : World) :
  Calls Tryd.prog 36 #[.agg #[vI vU (wd X 0),vI vU (wd X 1),vI vU (wd X 2),vI vU (wd X 3)],.agg #[vI vU (wd Y 0),vI vU (wd Y 1),vI vU (wd Y 2),vI vU (wd Y 3)]] w fun e w' => e = .returned (.int .i64 (cmpN X Y)) ∧ Below w.heap.size w w':=by
 go_enter Tryd.func36,Tryd.ntmps36
 go_wp2
 go_loopw [5] (fun i wr => ∃ k : Nat,k ≤ 4 ∧ i = .int .i64 ((k : Int) - 1) ∧ (∀ j,k ≤ j → j < 4 → dg w64 X j = dg w64 Y j) ∧ wr.rowIs w.heap.size 25 4 (fun j => .int .u64 (wd X j))
   ∧ wr.rowIs (w.heap.size + 1) 25 4 (fun j => .int .u64 (wd Y j)) ∧ Below w.heap.size w wr)
  (fun i _ => (intOf i + 1).toNat)
 case atStart => exact ⟨4,by omega,rfl,by intro j h1 h2; omega,(zad (n:=4) (by simp) rfl (arr4 fun j => .int .u64 (wd X j))).alloc _,zad (n:=4) (by simp) rfl (arr4 fun j => .int .u64 (wd Y j)),((Below.refl _ _).alloc (by simp) _).alloc (by simp) _⟩
 case round =>
  obtain ⟨k,hk,hi,hall,hRX,hRY,hbel⟩:=hrel
  have HALL:=veil hall
  clear hall
  cases k with
  | zero =>
   subst hi
   have hXY : X = Y:=eq_of_dg_lt zam hX hY fun j hj => HALL.out j (Nat.zero_le _) hj
   go_wp2
   go_ret
   have hc : cmpN X Y = 0:=by unfold cmpN; rw [if_neg (by omega),if_neg (by omega)]
   rw [hc]
   exact ⟨rfl,hbel⟩
  | succ m =>
   obtain rfl : _ = Value.int .i64 (m : Int):=hi.trans (by congr 1; omega)
   have hm : m < 4:=by omega
   go_wp2
   have c1:=hRX.cell hm
   have c2:=hRY.cell hm
   rcases Nat.lt_trichotomy (dg w64 X m) (dg w64 Y m) with h | h | h
   ·
    have hlt:=wd_cmp h
    have hne : (wd X m != wd Y m) = true:=by rw [bne_iff_ne]; omega
    have hc : cmpN X Y = -1:=by rw [cmp_high w64 X Y 4 m zam hX hY hm (fun j h1 h2 => HALL.out j (by omega) h2) (by omega),if_pos h]
    have HC:=veil hc
    clear hc
    go_quiet (fail)
    go_wp2
    go_quiet ((go_at_call 62; exact quiet_more (compare_lt _ _ hlt _)))
    go_wp2
    go_ret
    rw [HC.out]
    exact ⟨rfl,zaz (zaz hbel _) _⟩
   ·
    have hne : (wd X m != wd Y m) = false:=by unfold wd; rw [h]; simp
    go_quiet (fail)
    go_wp2
    go_roundw
    case rel => exact ⟨m,by omega,by go_num,fun j h1 h2 => by
     by_cases e : j = m
     ·
      rw [e]; exact h
     ·
      exact HALL.out j (by omega) h2,zbz hRX _,zbz hRY _,zaz hbel _⟩
    case measure => simp [intOf]
   ·
    have hlt:=wd_cmp h
    have hne : (wd X m != wd Y m) = true:=by rw [bne_iff_ne]; omega
    have hc : cmpN X Y = 1:=by rw [cmp_high w64 X Y 4 m zam hX hY hm (fun j h1 h2 => HALL.out j (by omega) h2) (by omega),if_neg (by omega)]
    have HC:=veil hc
    clear hc
    go_quiet (fail)
    go_wp2
    go_quiet ((go_at_call 62; exact quiet_more (compare_gt _ _ hlt _)))
    go_wp2
    go_ret
    rw [HC.out]
    exact ⟨rfl,zaz (zaz hbel _) _⟩
end Go.Proofs.YtihophdbkjhopaaDoor
