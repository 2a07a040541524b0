/-
  Of J1 Ls TF T9 K1 K2 T6 T8 TA K4 C0 Cq Ce Gv K5 K6 K7 K9 Lk.
-/
import Derived.Deep.MidRow
import Derived.Deep.Slices
import Derived.Laws.OwnMore
import Derived.Maps.AppendAt
import Derived.Great.BuildSlice
import Derived.Laws.IdiomStrings
import Derived.Lib.SmallJoins
import Derived.Test.YthlbemnbmbmjhaaGreatDoorZB6
import Derived.Test.YthlbemnbmbmjhaaGreatDoorZB1
import Derived.Test.YthlbemnbmbmjhaaGreatDoorZB3
import Derived.Test.YthlbemnbmbmjhaaGreatDoorZB2
import Derived.Test.YthlbemnbmbmjhaaGreatDoorZB4
import Derived.Test.YthlbemnbmbmjhaaGreatDoorZB5
set_option maxRecDepth 1000000
set_option maxHeartbeats 20000000
namespace Go.Proofs.YthlbemnbmbmjhaaGreatDoor
structure Ky where
 i : Int
 x : Nat
 y : Nat
 f : Bool
 a : Int
 b : Int
def ky0 : Ky:=⟨0,0,0,false,0,0⟩
def okK (l : List Ky) (j : Nat) : Prop :=
 1 ≤ (l.getD j ky0).i ∧ (l.getD j ky0).i ≤ 2147483647 ∧ onB (l.getD j ky0).x (l.getD j ky0).y (l.getD j ky0).f = true ∧ (l.getD j ky0).f = false ∧ 0 ≤ (l.getD j ky0).a ∧ (l.getD j ky0).a ≤ (l.getD j ky0).b ∧ (l.getD j ky0).b ≤ 1073741824 ∧ (0 < j → (l.getD (j - 1) ky0).i < (l.getD j ky0).i)
instance (l : List Ky) (j : Nat) : Decidable (okK l j):=by unfold okK; exact inferInstance
def mayK (l : List Ky) : Bool:=decide (l.length ≤ 32 ∧ ∀ j,j < l.length → okK l j)
theorem mayK_false {l : List Ky} {j : Nat} (hj : j < l.length) (h : ¬ okK l j) : mayK l = false:=decide_eq_false fun hh => h (hh.2 j hj)
theorem mayK_len {l : List Ky} (h : ∀ j,j < l.length → okK l j) : mayK l = decide (l.length ≤ 32):=by
 unfold mayK
 by_cases hc : l.length ≤ 32
 ·
  rw [decide_eq_true hc,decide_eq_true ⟨hc,h⟩]
 ·
  rw [decide_eq_false hc,decide_eq_false fun hh => hc hh.1]
theorem mayK_ok {l : List Ky} (h : mayK l = true) {j : Nat} (hj : j < l.length) : okK l j:=(of_decide_eq_true h).2 j hj
theorem mayK_32 {l : List Ky} (h : mayK l = true) : l.length ≤ 32:=(of_decide_eq_true h).1
def cntK (k : Ky) (id at_ : Int) : Bool:=decide (k.i = id) && decide (k.a ≤ at_) && decide (at_ < k.b)
def findK (l : List Ky) (id at_ : Int) : Option Ky:=l.find? fun k => cntK k id at_
theorem findK_none_take {l : List Ky} {id at_ : Int} (h : ∀ j,j < l.length → cntK (l.getD j ky0) id at_ = false) : findK l id at_ = none:=by
 unfold findK
 rw [List.find?_eq_none]
 intro k hk
 obtain ⟨j,hj,rfl⟩:=List.mem_iff_getElem.1 hk
 have:=h j hj
 rw [List.getD_eq_getElem?_getD,List.getElem?_eq_getElem hj] at this
 simpa using this
theorem findK_at {l : List Ky} {id at_ : Int} {j : Nat} (hj : j < l.length) (h : ∀ i,i < j → cntK (l.getD i ky0) id at_ = false) (hc : cntK (l.getD j ky0) id at_ = true) : findK l id at_ = some (l.getD j ky0):=by
 have e : l.getD j ky0 = l[j]:=by rw [List.getD_eq_getElem?_getD,List.getElem?_eq_getElem hj]; rfl
 rw [e] at hc ⊢
 unfold findK
 rw [List.find?_eq_some_iff_getElem]
 refine ⟨hc,j,hj,rfl,fun i hi => ?_⟩
 have:=h i hi
 rw [List.getD_eq_getElem?_getD,List.getElem?_eq_getElem (by omega)] at this
 simpa using this
/-! ### bytes -/
def kyB (k : Ky) : List Nat:=numB k.i ++ (sigB k.x k.y ++ (numB k.a ++ numB k.b))
theorem zdn (k : Ky) : (kyB k).length = 88:=by simp [kyB,zbm,zcw]
theorem kyB_byt (k : Ky) : Byt (kyB k):=(zhf _).append ((sigB_byt _ _).append ((zhf _).append (zhf _)))
def kyFs : Int → List Ky → List Fd
 | _,[] => []
 | t,k :: r => (t,kyB k) :: kyFs (t + 1) r
theorem zbn : ∀ (t : Int) (l : List Ky),(kyFs t l).length = l.length
 | _,[] => rfl
 | t,k :: r => by show (kyFs (t + 1) r).length + 1 = _; rw [zbn]; rfl
theorem zhi : ∀ (t : Int) (l : List Ky) (j : Nat),j < l.length → tgF (kyFs t l) j = t + j ∧ bsF (kyFs t l) j = kyB (l.getD j ky0)
 | _,[],_,h => by simp at h
 | t,k :: r,0,_ => ⟨by show t = t + 0; omega,rfl⟩
 | t,k :: r,j + 1,h => by
  obtain ⟨h1,h2⟩:=zhi (t + 1) r j (by simpa using h)
  refine ⟨?_,h2⟩
  show tgF (kyFs (t + 1) r) j = _
  rw [h1]
  omega
theorem kyFs_snoc : ∀ (t : Int) (l : List Ky) (k : Ky),kyFs t (l ++ [k]) = kyFs t l ++ [(t + (l.length : Int),kyB k)]
 | t,[],k => by show [(t,kyB k)] = [(t + 0,kyB k)]; rw [Int.add_zero]
 | t,a :: r,k => by
  show (t,kyB a) :: kyFs (t + 1) (r ++ [k]) = (t,kyB a) :: (kyFs (t + 1) r ++ _)
  rw [kyFs_snoc,List.length_cons]
  congr 4
  omega
theorem kyFs_may {l : List Ky} (h : l.length ≤ 64) : mayFs (kyFs 1 l) = true:=by
 refine decide_eq_true ⟨by rw [zbn]; exact h,fun i hi => ?_⟩
 rw [zbn] at hi
 obtain ⟨h1,h2⟩:=zhi 1 l i hi
 unfold okF
 rw [h1,h2,zdn]
 refine ⟨by omega,by omega,by omega,fun h0 => ?_⟩
 rw [(zhi 1 l (i - 1) (by omega)).1]
 omega
theorem kyFs_byt : ∀ (t : Int) (l : List Ky),BytF (kyFs t l)
 | _,[] => fun f hf => by cases hf
 | t,k :: r => fun f hf => by
  rcases List.mem_cons.1 hf with rfl | hf
  ·
   exact kyB_byt k
  ·
   exact kyFs_byt _ r f hf
def keysB (l : List Ky) : List Nat:=encF (kyFs 1 l)
def keyOf (bs : List Nat) : Option Ky :=
 if bs.length = 88 ∧ onB (sigR ((bs.drop 8).take 64)) (sigS ((bs.drop 8).take 64)) false = true ∧ 0 ≤ ofB (bs.take 8) ∧ 0 ≤ ofB ((bs.drop 72).take 8) ∧ 0 ≤ ofB (bs.drop 80) then
  some ⟨ofB (bs.take 8),sigR ((bs.drop 8).take 64),sigS ((bs.drop 8).take 64),false,ofB ((bs.drop 72).take 8),ofB (bs.drop 80)⟩ else none
def keysF : Int → List Fd → Option (List Ky)
 | _,[] => some []
 | t,f :: r => if f.1 = t then (keyOf f.2).bind fun k => (keysF (t + 1) r).map (k :: ·) else none
def keysOf (bs : List Nat) : Option (List Ky):=(getFs bs).bind fun fs => (keysF 1 fs).filter mayK
theorem pp_256 : Pt.pp < 256 ^ 32:=by decide +kernel
theorem onB_lt {x y : Nat} (h : onB x y false = true) : x < 256 ^ 32 ∧ y < 256 ^ 32:=by
 unfold onB at h
 rw [if_neg (by decide)] at h
 simp only [Bool.and_eq_true,decide_eq_true_eq] at h
 exact ⟨Nat.lt_trans h.1 pp_256,Nat.lt_trans h.2.1 pp_256⟩
theorem mayK_each {l : List Ky} (h : mayK l = true) : ∀ k ∈ l,1 ≤ k.i ∧ k.i ≤ 2147483647 ∧ onB k.x k.y false = true ∧ k.f = false ∧ 0 ≤ k.a ∧ k.a ≤ k.b ∧ k.b ≤ 1073741824:=by
 intro k hk
 obtain ⟨j,hj,rfl⟩:=List.mem_iff_getElem.1 hk
 obtain ⟨h1,h2,h3,h4,h5,h6,h7,_⟩:=mayK_ok h hj
 have e : l.getD j ky0 = l[j]:=by rw [List.getD_eq_getElem?_getD,List.getElem?_eq_getElem hj]; rfl
 rw [e] at h1 h2 h3 h4 h5 h6 h7
 rw [h4] at h3
 exact ⟨h1,h2,h3,h4,h5,h6,h7⟩
end Go.Proofs.YthlbemnbmbmjhaaGreatDoor
namespace Go.Proofs.YthlbemnbmbmjhaaGreatDoor
open Go.RowKit
open Go.Value renaming int → vI
open Go.IntKind renaming u64 → vU
open Go.Act renaming put → aP
open List renaming setIfInBounds_toArray → lA, set_cons_zero → lZ, set_cons_succ → lS
section
variable {α : Type} {sz : Nat} {cs : α → List Value} {w w' : World} {v : Value} {l : List α} {P : Program}
def Ls (sz : Nat) (cs : α → List Value) (w : World) (v : Value) (l : List α) : Prop :=
 ∃ A c,v = .slice A l.length c ∧ l.length ≤ c ∧ (l.length = 0 ∨ ∃ b o,A = some ⟨b,o,none⟩ ∧ b < w.heap.size ∧ ∀ i x,l[i]? = some x → w.rangeAt b (o + i * sz) (cs x))
theorem zbd (h : Ext w w') {b o : Nat} {L : List Value} (hb : b < w.heap.size) (hr : w.rangeAt b o L) : w'.rangeAt b o L:=fun j u hu => (h.cell hb).trans (hr j u hu)
theorem Ls.ext (h : Ls sz cs w v l) (k : Ext w w') : Ls sz cs w' v l:=by
 obtain ⟨A,c,e,hc,hx⟩:=h
 exact ⟨A,c,e,hc,hx.imp id fun ⟨b,o,ha,hb,hr⟩ => ⟨b,o,ha,Nat.lt_of_lt_of_le hb (Below.size k),fun i x hi => zbd k hb (hr i x hi)⟩⟩
theorem Ls.nil (w : World) (A : Option Addr) (c : Nat) : Ls sz cs w (.slice A 0 c) ([] : List α):=⟨A,c,rfl,Nat.zero_le _,.inl rfl⟩
theorem Ls.at (h : Ls sz cs w v l) {i : Nat} (hi : i < l.length) : ∃ b o c,v = .slice (some ⟨b,o,none⟩) l.length c ∧ l.length ≤ c ∧ b < w.heap.size ∧ ∀ i x,l[i]? = some x → w.rangeAt b (o + i * sz) (cs x):=by
 obtain ⟨A,c,e,hc,hx⟩:=h
 rcases hx with h0 | ⟨b,o,rfl,hb,hr⟩
 ·
  omega
 ·
  exact ⟨b,o,c,e,hc,hb,hr⟩
def OwnL (sz : Nat) (cs : α → List Value) (w : World) (base ty : Nat) (v : Value) (l : List α) : Prop:=w.ownsRow base ty sz v l.length (l.flatMap cs)
variable {base ty : Nat}
theorem OwnL.nil (w : World) (base ty : Nat) : OwnL sz cs w base ty (.slice none 0 0) ([] : List α):=World.ownsRow_nil _ _ _ _
theorem OwnL.keep (o : OwnL sz cs w base ty v l) (h : Ext w w') : OwnL sz cs w' base ty v l :=
 ⟨o.1,o.2.imp id fun ⟨g,cap,cur,e,hg,hh,r⟩ => ⟨g,cap,cur,e,hg,h.block hh,r⟩⟩
theorem OwnL.lt (o : OwnL sz cs w base ty v l) {k : Nat} (hk : v.ownBlock = some k) : base ≤ k ∧ k < w.heap.size:=World.ownsRow.lt o k hk
theorem flat_at (hcs : ∀ x,(cs x).length = sz) : ∀ {l : List α} {i j : Nat} {x : α} {u : Value},l[i]? = some x → (cs x)[j]? = some u → (l.flatMap cs)[i * sz + j]? = some u
 | [],_,_,_,_,h,_ => by simp at h
 | a :: l,0,j,x,u,h,hu => by
  obtain rfl : a = x:=by simpa using h
  have hj : j < (cs a).length:=(List.getElem?_eq_some_iff.1 hu).1
  rw [List.flatMap_cons,Nat.zero_mul,Nat.zero_add,List.getElem?_append_left hj]
  exact hu
 | a :: l,i + 1,j,x,u,h,hu => by
  rw [List.flatMap_cons,List.getElem?_append_right (by rw [hcs,Nat.add_mul]; omega),hcs,show (i + 1) * sz + j - sz = i * sz + j by rw [Nat.add_mul]; omega]
  exact flat_at hcs (by simpa using h) hu
theorem flat_len (hcs : ∀ x,(cs x).length = sz) : ∀ (l : List α),(l.flatMap cs).length = l.length * sz
 | [] => by simp
 | a :: l => by rw [List.flatMap_cons,List.length_append,hcs,flat_len hcs l,List.length_cons,Nat.add_mul]; omega
theorem OwnL.ls (hcs : ∀ x,(cs x).length = sz) (o : OwnL sz cs w base ty v l) : Ls sz cs w v l:=by
 rcases o.2 with ⟨rfl,h0⟩ | ⟨g,cap,cur,rfl,hbg,hh,hn,hm,hs,ht⟩
 ·
  exact ⟨none,0,by rw [h0],by omega,.inl h0⟩
 ·
  refine ⟨_,cap,rfl,hn,.inr ⟨g,0,rfl,(Array.getElem?_eq_some_iff.1 hh).1,fun i x hi j u hu => ?_⟩⟩
  have h1:=flat_at hcs hi hu
  rw [← ht] at h1
  have hlt : i * sz + j < l.length * sz:=by
   have:=(List.getElem?_eq_some_iff.1 h1).1
   rw [List.length_take] at this
   omega
  rw [List.getElem?_take_of_lt hlt] at h1
  rw [Nat.zero_add,cell_of_row w g _ cur _ _ hh]
  simpa using h1
theorem run_append_ls {i : TypeInfo} {z : Value} {bytes t : Nat} (ht : P.underlying t = some (.slice ty)) (hi : P.info? ty = some i) (hz : i.zero = some z) (hsize : i.size = sz) (hby : i.bytes = bytes) (hzs : z.cells.size = sz) (hsz : 0 < sz)
  (hcs : ∀ x,(cs x).length = sz) (h1 : ∀ x,∀ u ∈ cs x,u.oneCell' = true) (rt : TypeId) (o : OwnL sz cs w base ty v l) {ys : List α} {A : Option Addr} {m c : Nat} (hm : m = ys.length) (hy : Ls sz cs w (.slice A m c) ys)
  (h63 : l.length + m ≤ maxLen) (hbytes : (l.length + m) * bytes ≤ 140737488355328) (hbase : base ≤ w.heap.size) :
  ∃ v' w',(Builtin.append_ #[t,t] rt #[v,.slice A m c]).run P w = .ok v' w' ∧ OwnL sz cs w' base ty v' (l ++ ys) ∧ w.grownBy w' v.ownBlock ∧ (v'.ownBlock = v.ownBlock ∨ v'.ownBlock = some w.heap.size):=by
 subst hm
 obtain ⟨A',c',e,hc,hx⟩:=hy
 injection e with e1 _ e3
 subst e1 e3
 rcases A with _ | a
 ·
  have h0 : ys = []:=by
   rcases hx with h | ⟨_,_,h,_⟩
   ·
    exact List.length_eq_zero_iff.1 h
   ·
    cases h
  subst h0
  refine ⟨v,w,?_,by rw [List.append_nil]; exact o,World.grownBy.refl w _,.inl rfl⟩
  rcases o.2 with ⟨rfl,h0⟩ | ⟨g,cap,cur,rfl,_,_,hnc,_⟩
  ·
   simp [Builtin.append_,run_underlying ht,sizeOf,typeInfo,hi,Builtin.lenOf,Builtin.firstCells]
  ·
   simp [Builtin.append_,run_underlying ht,sizeOf,typeInfo,hi,Builtin.lenOf,Builtin.firstCells,hnc,storeCells]
 ·
  have hcell : ∀ j u,(ys.flatMap cs)[j]? = some u → w.cell? (a.add j) = some u:=by
   intro j u hu
   have hj:=(List.getElem?_eq_some_iff.1 hu).1
   rw [flat_len hcs] at hj
   rcases hx with h | ⟨b,off,ha,_,hr⟩
   ·
    rw [h] at hj; omega
   ·
    obtain rfl:=Option.some.inj ha
    have hq : j / sz < ys.length:=(Nat.div_lt_iff_lt_mul hsz).2 hj
    have hr2:=hr (j / sz) _ (List.getElem?_eq_getElem hq)
    have hd : j / sz * sz + j % sz = j:=by rw [Nat.mul_comm]; exact Nat.div_add_mod j sz
    have hlt : j % sz < (cs ys[j / sz]).length:=by rw [hcs]; exact Nat.mod_lt _ hsz
    have h3:=flat_at hcs (List.getElem?_eq_getElem hq) (List.getElem?_eq_getElem hlt)
    rw [hd,hu] at h3
    obtain rfl:=Option.some.inj h3
    have h4:=hr2 _ _ (List.getElem?_eq_getElem hlt)
    rw [Nat.add_assoc,hd] at h4
    rw [Addr.add_mid]
    exact h4
  obtain ⟨v',w',hr,h2,h3,_,h5⟩:=run_append_own_at (P:=P) w base t rt ty i z sz bytes ht hi hz hsize hby hzs hsz v l.length _ o a ys.length c (ys.flatMap cs) (flat_len hcs ys) hcell
   (fun u hu => by obtain ⟨x,_,hx⟩:=List.mem_flatMap.1 hu; exact h1 x u hx) h63 hbytes hbase
  refine ⟨v',w',hr,?_,h3,h5⟩
  unfold OwnL
  rw [List.flatMap_append,List.length_append]
  exact h2
theorem ls_one {g c : Nat} {x : α} {fr : Nat × Nat} (hg : w.heap[g]? = some (.cells (cs x).toArray ty fr)) (hc : 1 ≤ c:=by decide) : Ls sz cs w (.slice (some ⟨g,0,none⟩) 1 c) [x] :=
 ⟨_,c,rfl,hc,.inr ⟨g,0,rfl,(Array.getElem?_eq_some_iff.1 hg).1,fun i y hi j u hu => by
  match i,hi with
  | 0,hi =>
   obtain rfl : x = y:=by simpa using hi
   simp only [Nat.zero_mul,Nat.zero_add]
   rw [cell_of_row w g j _ _ _ hg]
   simpa using hu⟩⟩
theorem wpl_append_ls {i : TypeInfo} {z : Value} {bytes t : Nat} (ht : P.underlying t = some (.slice ty)) (hi : P.info? ty = some i) (hz : i.zero = some z) (hsize : i.size = sz) (hby : i.bytes = bytes) (hzs : z.cells.size = sz) (hsz : 0 < sz)
  (hcs : ∀ x,(cs x).length = sz) (h1 : ∀ x,∀ u ∈ cs x,u.oneCell' = true) {ops : Array Oper} {Q : Exit → Act → World → Prop} {rest : List Oper} {op : Oper} {a : Act} {s x : Operand} (hgd : op.guard = none) (hop : op.op = .call { callee:=.builtin .append,args:=#[s,x],argTypes:=#[t,t] })
  (hs : a.eval s = v) {ys : List α} {A : Option Addr} {m c : Nat} (hx : a.eval x = .slice A m c) (o : OwnL sz cs w base ty v l) (hm : m = ys.length) (hy : Ls sz cs w (.slice A m c) ys)
  (h63 : l.length + m ≤ maxLen) (hbytes : (l.length + m) * bytes ≤ 140737488355328) (hbase : base ≤ w.heap.size)
  (h : ∀ v' w',OwnL sz cs w' base ty v' (l ++ ys) → w.grownBy w' v.ownBlock → wpList P ops Q rest (a.put op.dst v') w') : wpList P ops Q (op :: rest) a w:=by
 refine wpList_plain hgd fun K hK => ?_
 obtain ⟨v',w',hr,h2,h3,_⟩:=run_append_ls (P:=P) ht hi hz hsize hby hzs hsz hcs h1 op.type o hm hy h63 hbytes hbase
 unfold Oper.wp execOp
 simp only [hop,resolve,invoke,builtin,Sem.run_bind,Sem.run_pure,Result.andThen_ok,List.map_toArray,List.map_cons,List.map_nil,hs,hx,hr]
 exact hK _ _ (h v' w' h2 h3)
theorem ls_of {H : Type} {enc : TypeId × Value → H} {t e fuel base : Nat} {sp : Nat → Bool} {hd : Bool} {d : DataW H} {p : List MemPlace} (ht : P.underlying t = some (.slice e)) (hsz : P.cellsOf e = sz) (h0 : 0 < sz)
  (he : ∀ n cs' y,DataW.trod enc P w base sp hd n e cs' = some y → ∃ x,cs' = cs x) (hf : DataW.trod enc P w base sp hd fuel t [v] = some (d,p)) : ∃ l : List α,Ls sz cs w v l:=by
 rcases Go.Deep.open_slice ht hf with ⟨h,_⟩ | ⟨a,len,cap,m,n,D,Pl,h,_,hlc,_,hm,_,hx⟩
 ·
  simp only [List.cons.injEq,and_true] at h
  rw [h]
  exact ⟨[],Ls.nil _ _ _⟩
 ·
  simp only [List.cons.injEq,and_true] at h
  have hlm : len ≤ m:=by rw [hm]; split <;> omega
  have each : ∀ i,i < len → ∃ x : α,(cs x).length = sz ∧ ∀ j u,(cs x)[j]? = some u → w.cell? ((a.add (i * sz)).add j) = some u:=by
   intro i hi
   obtain ⟨cs',h1,h2⟩:=hx i (by omega)
   rw [hsz] at h1
   obtain ⟨_,hlen,hcell⟩:=World.cells?_some h1
   obtain ⟨x,rfl⟩:=he _ _ _ h2
   refine ⟨x,hlen,fun j u hu => ?_⟩
   have hj:=(List.getElem?_eq_some_iff.1 hu).1
   rw [hcell j (by omega),hu]
  by_cases hl0 : len = 0
  ·
   rw [h,hl0]
   exact ⟨[],Ls.nil _ _ _⟩
  ·
   obtain ⟨x0,_⟩:=each 0 (by omega)
   haveI : Inhabited α:=⟨x0⟩
   obtain ⟨q,hq⟩:=Go.Deep.choose_lt each
   refine ⟨(List.range len).map q,some a,cap,by rw [h]; simp,by simpa using hlc,.inr ?_⟩
   obtain ⟨b,off,spot⟩:=a
   have h00 : ∃ u,(cs (q 0))[0]? = some u:=⟨_,List.getElem?_eq_getElem (by rw [(hq 0 (by omega)).1]; exact h0)⟩
   obtain ⟨u0,hu0⟩:=h00
   have hc0:=(hq 0 (by omega)).2 0 u0 hu0
   have hspot : spot = none:=by simpa [Addr.add] using World.cell?_spot hc0
   subst hspot
   have hblk : b < w.heap.size:=by
    have:=World.block_lt_of_cell? w _ hc0
    simpa [Addr.add] using this
   refine ⟨b,off,rfl,hblk,fun i x hi j u hu => ?_⟩
   have hil : i < len:=by
    have:=(List.getElem?_eq_some_iff.1 hi).1
    simpa using this
   obtain rfl : q i = x:=by simpa [hil] using hi
   have:=(hq i hil).2 j u hu
   rw [Addr.add_mid,Addr.add_mid] at this
   exact this
end
theorem rng_fd {w : World} {b o : Nat} {x y : Value} (h0 : w.cell? ⟨b,o,none⟩ = some x) (h1 : w.cell? ⟨b,o + 1,none⟩ = some y) : w.rangeAt b o [x,y]:=fun j v hv => by
 match j,hv with
 | 0,hv => rw [Nat.add_zero,h0]; simpa using hv
 | 1,hv => rw [h1]; simpa using hv
theorem infoF2 : (Tryz.prog.info? 64).map (·.size) = some 2:=by kernel_rfl
theorem hzF (W : World) : (Instr.alloc 64 true (.tuple #[])).run Tryz.prog W = .ok (ptrTo W.heap.size) (W.alloc (.cells #[.int .i64 0,.slice none 0 0] 64)):=by simp [Instr.alloc,go_sem]
theorem zfk {w : World} {g : Nat} {x y : Value} (h : w.heap[g]? = some (.cells #[x,y] 64 (0,0))) : w.cell? ⟨g,0,none⟩ = some x ∧ w.cell? ⟨g,1,none⟩ = some y:=⟨by rw [cell_of_row w g 0 _ _ _ h]; rfl,by rw [cell_of_row w g 1 _ _ _ h]; rfl⟩
theorem one_fd {T : Int} {A : Option Addr} {L c : Nat} : (#[.int .i64 T,.slice A L c] : Array Value).all (·.oneCell') = true:=by simp [Value.oneCell']
theorem encF_take_len (fs : List Fd) {i : Nat} (hi : i < fs.length) : (encF (fs.take (i + 1))).length = (encF (fs.take i)).length + (3 + (bsF fs i).length):=by
 rw [encF_take fs hi,List.length_append,enc1_length]
theorem sizeOf_calls (v : Value) (fs : List Fd) (w : World) (hF : Fl w v fs) (hM : mayFs fs = true) :
  Calls Tryz.prog 52 #[v] w fun e w' => e = .returned (.int .i64 ((encF fs).length : Nat)) ∧ Ext w w':=by
 obtain ⟨hB,AL,c,rfl,hc,hx⟩:=hF
 obtain ⟨n,hn⟩ : ∃ n,n = fs.length:=⟨_,rfl⟩
 rw [← hn] at hx hc ⊢
 have HR:=veil (And.intro hn (And.intro hM hB))
 have HX:=veil hx
 have hnL : n ≤ 64:=by rw [hn]; exact zec hM
 clear hx hB hn hM
 go_enter Tryz.func52,Tryz.ntmps52
 go_wp2
 go_loopw [3,8] (fun s v wr => ∃ i : Nat,i ≤ n ∧ s = .int .i64 ((encF (fs.take i)).length : Nat) ∧ v = .int .i64 (i : Int) ∧ Ext w wr)
  (fun _ v _ => n - (intOf v).toNat)
 case atStart => exact ⟨0,by omega,rfl,rfl,Ext.refl _⟩
 case round =>
  obtain ⟨i,hi,rfl,rfl,hE⟩:=hrel
  by_cases hlt : i < n
  ·
   have hd1 : decide ((i : Int) < (n : Int)) = true:=by simp; omega
   have hii : (i : Int) < (n : Int):=by omega
   have hok:=mayFs_ok HR.out.2.1 (by have:=HR.out.1; omega : i < fs.length)
   have hst:=encF_take_len fs (by have:=HR.out.1; omega : i < fs.length)
   have hle:=zdc HR.out.2.1 i
   obtain ⟨b,o,hAL,hb,hcl⟩:=HX.out.resolve_left (by omega)
   obtain ⟨h1,A,c',h2,h3,h4⟩:=hcl i hlt
   have c0:=(hE.cell hb).trans h1
   have c1:=(hE.cell hb).trans h2
   obtain ⟨S,hS⟩ : ∃ S,S = (encF (fs.take i)).length:=⟨_,rfl⟩
   rw [← hS] at hst hle ⊢
   have hs : (S : Int) ≤ 4194432:=by omega
   have hL1:=hok.2.2.1
   have HS:=veil hst
   clear hcl h1 h2 hok hst hle h3 h4 hS
   generalize tgF fs i = T at *
   obtain ⟨L,hL⟩ : ∃ L,L = (bsF fs i).length:=⟨_,rfl⟩
   rw [← hL] at c1 hL1
   have HL:=veil hL
   clear hL
   have HRG:=veil (rng_fd c0 c1)
   clear c0 c1
   have hL2 : (L : Int) ≤ 65535:=by omega
   subst hAL
   go_upto_region 5 with (first
    | ((with_reducible refine zah 11 ?_); refine wpList_load_mid rfl 64 _ rfl b _ rfl _ _ HRG.out Tryz.underlying64 rfl infoF2 ?_)
    | ((with_reducible refine zah 5 ?_); refine zcu _ _ rfl rfl rfl rfl rfl rfl hzF (fun _ => rfl) (fun _ => rfl) infoF2 rfl one_fd ?_; intro g W hg hW hEW))
   have hEE:=hE.trans hEW
   obtain ⟨d0,d1⟩:=zfk hW
   clear hW hEW hE
   go_wp2
   go_roundw
   case rel => exact ⟨i + 1,by omega,by rw [HS.out,← HL.out]; simp,by go_num,hEE⟩
   case measure => simp [intOf]; omega
  ·
   obtain rfl : i = n:=by omega
   have e : encF (fs.take i) = encF fs:=by rw [HR.out.1,List.take_length]
   rw [e]
   go_wp2
   go_ret
   exact ⟨rfl,hE⟩
def szB (bs : List Nat) : Nat:=if bs.length < 3 then 3 else 3 + (256 * bs.getD 1 0 + bs.getD 2 0)
theorem sizeFirst_calls (A : Option Addr) (m c : Nat) (bs : List Nat) (hm : m = bs.length) (w : World) (hS : Bs w A bs) :
  Calls Tryz.prog 54 #[.slice A m c] w fun e w' => e = .returned (.int .i64 (szB bs : Nat)) ∧ Ext w w':=by
 have HS:=veil (And.intro hm hS)
 by_cases h3 : m < 3
 ·
  have hd : decide ((m : Int) < 3) = true:=by simp; omega
  have hs : szB bs = 3:=if_pos (by omega)
  have HZ:=veil hs
  rw [HZ.out]
  clear hm hS hs
  go_enter Tryz.func54,Tryz.ntmps54
  go_wp2
  go_ret
  exact ⟨rfl,Ext.refl _⟩
 ·
  have hd : decide ((m : Int) < 3) = false:=by simp; omega
  obtain ⟨b,o,hA,hbl,c1⟩:=hS.cell (j:=1) (by omega)
  obtain ⟨b',o',hA',_,c2⟩:=hS.cell (j:=2) (by omega)
  obtain ⟨e1,e2⟩ : b' = b ∧ o' = o:=by rw [hA] at hA'; injection hA' with h; injection h with h1 h2; exact ⟨h1.symm,h2.symm⟩
  subst e1 e2
  have l1:=hS.1.getD 1
  have l2:=hS.1.getD 2
  obtain ⟨X,hX⟩ : ∃ X,X = bs.getD 1 0:=⟨_,rfl⟩
  obtain ⟨Y,hY⟩ : ∃ Y,Y = bs.getD 2 0:=⟨_,rfl⟩
  rw [← hX] at c1 l1
  rw [← hY] at c2 l2
  have hs : szB bs = 3 + (256 * X + Y):=by unfold szB; rw [if_neg (by omega),hX,hY]
  have HZ:=veil hs
  rw [HZ.out]
  have k1 : (X : Int) ≤ 255:=by omega
  have k2 : (Y : Int) ≤ 255:=by omega
  have i1 : (1 : Int) < (m : Int):=by omega
  have i2 : (2 : Int) < (m : Int):=by omega
  clear hm hS hs hX hY l1 l2 hA' h3
  subst hA
  go_enter Tryz.func54,Tryz.ntmps54
  go_wp2
  go_quiet (fail)
  go_wp2
  go_ret
  refine ⟨?_,Ext.drewK _ _⟩
  show Ending.returned (.int .i64 (3 + (X : Int) * 256 + (Y : Int))) = _
  rw [show 3 + (X : Int) * 256 + (Y : Int) = ((3 + (256 * X + Y) : Nat) : Int) by omega]
theorem zdm (v : Value) (fs : List Fd) (w : World) (hF : Fl w v fs) (hL : fs.length ≤ 1000000000) :
  Calls Tryz.prog 51 #[v] w fun e w' => e = .returned (.bool (mayFs fs)) ∧ Ext w w':=by
 obtain ⟨hB,AL,c,rfl,hc,hx⟩:=hF
 obtain ⟨R,hR⟩ : ∃ R,R = mayFs fs:=⟨_,rfl⟩
 rw [← hR]
 obtain ⟨n,hn⟩ : ∃ n,n = fs.length:=⟨_,rfl⟩
 rw [← hn] at hx hc ⊢
 have HR:=veil (And.intro hR (And.intro hn hL))
 have HX:=veil hx
 have hnL : n ≤ 1000000000:=by omega
 clear hR hx hB hn hL
 by_cases h64 : (64 : Int) < (n : Int)
 ·
  have hd : decide ((64 : Int) < (n : Int)) = true:=decide_eq_true h64
  have e : R = false:=by
   rw [HR.out.1]
   exact decide_eq_false fun hh => by have:=hh.1; have:=HR.out.2.1; omega
  subst e
  go_enter Tryz.func51,Tryz.ntmps51
  go_wp2
  go_ret
  exact ⟨rfl,Ext.refl _⟩
 ·
  have hd : decide ((64 : Int) < (n : Int)) = false:=decide_eq_false h64
  have hn64 : n ≤ 64:=by omega
  clear hnL h64
  go_enter Tryz.func51,Tryz.ntmps51
  go_wp2
  go_loopw [3,11] (fun s v wr => ∃ (i : Nat) (P : Int),i ≤ n ∧ s = .int .i64 P ∧ v = .int .i64 (i : Int) ∧ (∀ j,j < i → okF fs j) ∧ 0 ≤ P ∧ P ≤ 255 ∧ (i = 0 ∧ P = 0 ∨ 0 < i ∧ P = tgF fs (i - 1)) ∧ Ext w wr)
   (fun _ v _ => n - (intOf v).toNat)
  case atStart => exact ⟨0,0,by omega,rfl,rfl,fun j hj => by omega,by omega,by omega,.inl ⟨rfl,rfl⟩,Ext.refl _⟩
  case round =>
   obtain ⟨i,P,hi,rfl,rfl,hall,hP0,hP1,hP,hE⟩:=hrel
   by_cases hlt : i < n
   ·
    have hd1 : decide ((i : Int) < (n : Int)) = true:=by simp; omega
    have hii : (i : Int) < (n : Int):=by omega
    obtain ⟨b,o,hAL,hb,hcl⟩:=HX.out.resolve_left (by omega)
    obtain ⟨h1,A,c',h2,_,_⟩:=hcl i hlt
    have c0:=(hE.cell hb).trans h1
    have c1:=(hE.cell hb).trans h2
    obtain ⟨T,hT⟩ : ∃ T,T = tgF fs i:=⟨_,rfl⟩
    obtain ⟨L,hL⟩ : ∃ L,L = (bsF fs i).length:=⟨_,rfl⟩
    rw [← hT] at c0
    rw [← hL] at c1
    have HT:=veil (And.intro hT (And.intro hL hP))
    have HALL:=veil hall
    have hfalse : ∀ h : ¬ okF fs i,R = false:=fun h => HR.out.1.trans (mayFs_false (by have:=HR.out.2.1; omega) h)
    have HF:=veil hfalse
    have HRG:=veil (rng_fd c0 c1)
    clear h1 h2 hT hL hall hfalse hP c0 c1 hcl
    subst hAL
    go_upto_region 7 with (first
     | ((with_reducible refine zah 14 ?_); refine wpList_load_mid rfl 64 _ rfl b _ rfl _ _ HRG.out Tryz.underlying64 rfl infoF2 ?_)
     | ((with_reducible refine zah 5 ?_); refine zcu _ _ rfl rfl rfl rfl rfl rfl hzF (fun _ => rfl) (fun _ => rfl) infoF2 rfl one_fd ?_; intro g W hg hW hEW))
    have hEE:=hE.trans hEW
    obtain ⟨d0,d1⟩:=zfk hW
    clear hW hEW hE
    by_cases g1 : T ≤ P
    ·
     have e : R = false:=HF.out fun h => by
      have h4:=h.2.2.2
      have h1:=h.1
      rw [← HT.out.1] at h1 h4
      rcases HT.out.2.2 with ⟨_,h0⟩ | ⟨h0,h5⟩
      ·
       omega
      ·
       have:=h4 h0; omega
     subst e
     have hd2 : decide (T ≤ P) = true:=decide_eq_true g1
     go_wp2
     go_ret
     exact ⟨rfl,hEE⟩
    ·
     have hd2 : decide (T ≤ P) = false:=decide_eq_false g1
     by_cases g2 : 255 < T
     ·
      have e : R = false:=HF.out fun h => by have:=h.2.1; rw [← HT.out.1] at this; omega
      subst e
      have hd3 : decide (255 < T) = true:=decide_eq_true g2
      go_wp2
      go_ret
      exact ⟨rfl,hEE⟩
     ·
      have hd3 : decide (255 < T) = false:=decide_eq_false g2
      by_cases g3 : (65535 : Int) < (L : Int)
      ·
       have e : R = false:=HF.out fun h => by have:=h.2.2.1; rw [← HT.out.2.1] at this; omega
       subst e
       have hd4 : decide ((65535 : Int) < (L : Int)) = true:=decide_eq_true g3
       go_wp2
       go_ret
       exact ⟨rfl,hEE⟩
      ·
       have hd4 : decide ((65535 : Int) < (L : Int)) = false:=decide_eq_false g3
       go_wp2
       go_roundw
       case rel =>
        refine ⟨i + 1,T,by omega,rfl,by go_num,fun j hj => ?_,by omega,by omega,.inr ⟨by omega,HT.out.1⟩,hEE⟩
        by_cases e : j = i
        ·
         subst e
         refine ⟨by rw [← HT.out.1]; omega,by rw [← HT.out.1]; omega,by rw [← HT.out.2.1]; omega,fun h0 => ?_⟩
         rw [← HT.out.1]
         rcases HT.out.2.2 with ⟨h5,_⟩ | ⟨_,h5⟩ <;> omega
        ·
         exact HALL.out j (by omega)
       case measure => simp [intOf]; omega
   ·
    obtain rfl : i = n:=by omega
    have e : R = true:=by
     rw [HR.out.1,mayFs_len (by rw [← HR.out.2.1]; exact hall),← HR.out.2.1]
     exact decide_eq_true hn64
    subst e
    clear hall
    go_wp2
    go_ret
    exact ⟨rfl,hE⟩
theorem clone8_calls (A : Option Addr) (m c : Nat) (bs : List Nat) (hm : m = bs.length) (hle : m ≤ 1000000000) (w : World) (hS : Bs w A bs) :
  Calls Tryz.prog 55 #[.slice A m c] w fun e w' => ∃ A' c',e = .returned (.slice A' m c') ∧ Ext w w' ∧ m ≤ c' ∧ Bs w' A' bs ∧ Fresh w A' bs:=by
 have HS:=veil (And.intro hm hS)
 rcases A with _ | ad
 ·
  have h0 : m = 0:=by
   rcases hS.2 with h | ⟨_,_,h,_⟩
   ·
    omega
   ·
    cases h
  subst h0
  clear hm hS
  have ke : (binOp .eql 33 (.slice none 0 c) (.slice none 0 0)).run Tryz.prog w = .ok (.bool true) w:=by kernel_rfl
  go_enter Tryz.func55,Tryz.ntmps55
  go_wp2
  go_ret
  exact ⟨none,0,rfl,Ext.refl _,Nat.le_refl _,⟨HS.out.2.1,.inl HS.out.1.symm⟩,.inl HS.out.1.symm⟩
 ·
  have ke : (binOp .eql 33 (.slice (some ad) m c) (.slice none 0 0)).run Tryz.prog w = .ok (.bool false) w:=by kernel_rfl
  clear hm hS
  go_enter Tryz.func55,Tryz.ntmps55
  go_wp2_with ((with_reducible refine zah 7 ?_); refine wpl_append0 rfl rfl rfl rfl (zag w _) (HS.out.2.ext (Ext.alloc w _)) HS.out.1 hle ?_; intro A' c' w2 hE2 hc' hB' hF')
  go_ret
  exact ⟨A',c',rfl,(Ext.alloc w _).trans hE2,hc',hB',hF'.imp id fun h b o e => Nat.le_trans (Below.size (Ext.alloc w _)) (h b o e)⟩
def lowB (n i : Nat) : List Nat:=(List.range i).map fun j => n / 256 ^ (i - 1 - j) % 256
theorem zfc (n i : Nat) : (lowB n i).length = i:=by simp [lowB]
theorem lowB_succ (n i : Nat) : lowB n (i + 1) = [n / 256 ^ i % 256] ++ lowB n i:=by
 apply List.ext_getElem?
 intro j
 by_cases h0 : j = 0
 ·
  subst h0; simp [lowB]
 ·
  obtain ⟨k,rfl⟩ : ∃ k,j = k + 1:=⟨j - 1,by omega⟩
  rw [List.singleton_append,List.getElem?_cons_succ]
  by_cases hk : k < i
  ·
   simp [lowB,hk]
   congr 3
   omega
  ·
   rw [List.getElem?_eq_none (by rw [zfc]; omega),List.getElem?_eq_none (by rw [zfc]; omega)]
theorem lowB_num {n : Nat} (h : n ≤ 9223372036854775807) : lowB n 8 = numB n:=by
 unfold lowB numB
 rw [show ((n : Nat) : Int) % 18446744073709551616 = (n : Int) by omega]
 simp
theorem infoT9 : (Tryz.prog.info? 5).map (fun i => (i.zero,i.size,i.bytes)) = some (some (.int .u8 0),1,1):=by kernel_rfl
theorem zeu (n : Nat) (hn : n ≤ 9223372036854775807) (w : World) :
  Calls Tryz.prog 28 #[.int .i64 (n : Int)] w fun e w' => e = .returned (.string (strL (numB n))) ∧ Ext w w':=by
 have HN:=veil hn
 go_enter Tryz.func28,Tryz.ntmps28
 go_wp2_with fail
 go_loopw [0,3,4] (fun x v u wr => ∃ i : Nat,i ≤ 8 ∧ u = .int .i64 (i : Int) ∧ x = .int .i64 ((n / 256 ^ i : Nat) : Int) ∧ OwnB wr w.heap.size v (lowB n i) ∧ Ext w wr)
  (fun _ _ v _ => 8 - (intOf v).toNat)
 case atStart => exact ⟨0,by omega,rfl,by simp,OwnB.nil _ _,Ext.refl _⟩
 case round =>
  obtain ⟨i,hi,rfl,rfl,hO,hE⟩:=hrel
  by_cases hlt : i < 8
  ·
   have hii : (i : Int) < 8:=by omega
   have hq : n / 256 ^ i ≤ 9223372036854775807:=Nat.le_trans (Nat.div_le_self _ _) hn
   have hs : n / 256 ^ (i + 1) = n / 256 ^ i / 256:=by rw [Nat.pow_succ,← Nat.div_div_eq_div_mul]
   have hl:=lowB_succ n i
   have hlen:=zfc n i
   generalize n / 256 ^ i = q at *
   have HH:=veil (And.intro hs (And.intro hl hO))
   obtain ⟨L,hL⟩ : ∃ L,L = lowB n i:=⟨_,rfl⟩
   obtain ⟨A,c,hv,hc,hB⟩:=hO.bs
   rw [← hL] at hv hc hB hlen
   have HL:=veil (And.intro hL (And.intro hB hlen))
   have kq : (q : Int) ≤ 9223372036854775807:=by omega
   subst hv
   obtain ⟨i8,hi8,hz0,hz1,hz2⟩:=info_parts infoT9
   have HI:=veil (And.intro hi8 (And.intro hz0 (And.intro hz1 hz2)))
   have eq1 : (((q % 256 : Nat) : Nat) : Int) = (q : Int) % 256:=by omega
   have hmade : Own (wr.alloc (.cells #[.int .u8 ((q : Int) % 256)] 5)) w.heap.size 5 (.slice (some ⟨wr.heap.size,0,none⟩) 1 1) 1 (fun j => .int .u8 ([q % 256].getD j 0 : Nat)) :=
    (Own.made (f:=fun j => .int .u8 ([q % 256].getD j 0 : Nat)) wr (cs:=#[.int .u8 ((q : Int) % 256)]) (Nat.le_refl _) (by show 1 ≤ _; unfold maxLen; decide) fun j hj => by
     have h0 : j = 0:=by simp at hj; omega
     subst h0
     show some (Value.int .u8 ((q : Int) % 256)) = some (.int .u8 ((q % 256 : Nat) : Int))
     rw [eq1]).base_le (Below.size hE)
   have hfrom:=(HL.out.2.1.ext (Ext.alloc wr (.cells #[.int .u8 ((q : Int) % 256)] 5))).from
   have hEa:=hE.trans (Ext.alloc wr (.cells #[.int .u8 ((q : Int) % 256)] 5))
   have hbz : w.heap.size ≤ wr.heap.size + 1:=by have:=Below.size hE; omega
   have HM:=veil (And.intro hmade (And.intro hfrom hEa))
   have hLl : L.length ≤ 8:=by omega
   clear hi8 hz0 hz1 hz2 eq1 hmade hfrom hEa
   go_wp2_with ((with_reducible refine zah 14 ?_); refine zaz _ rfl _ _ 33 rfl w.heap.size 5 i8 (.int .u8 0) 1 Tryz.underlying33 HI.out.1 HI.out.2.1 HI.out.2.2.1 HI.out.2.2.2 rfl _ 1 _ rfl HM.out.1 A L.length c rfl _ HM.out.2.1 (fun _ => rfl) (by unfold maxLen; omega) (by omega) (by simpa using hbz) ?_; intro v6 w6 hO6 hg6 hat6; clear hat6)
   go_roundw
   case rel =>
    refine ⟨i + 1,by omega,by go_num,?_,?_,?_⟩
    ·
     rw [HH.out.1]; simp
    ·
     rw [HH.out.2.1,← HL.out.1]
     exact OwnB.append hO6 (fun x hx => by rw [List.mem_singleton.1 hx]; exact Nat.mod_lt _ (by decide)) HL.out.2.1.1 rfl rfl
    ·
     exact HM.out.2.2.grown hg6 (by simpa using hbz) fun k hk => (HM.out.1.lt hk).1
   case measure => simp [intOf]; omega
  ·
   obtain rfl : i = 8:=by omega
   obtain ⟨A,c,rfl,hc,hB⟩:=hO.bs
   have k1 : (convert 33 9 (.slice A (lowB n 8).length c)).run Tryz.prog wr = .ok (.string (strL (lowB n 8))) wr:=str_of hB rfl
   rw [lowB_num hn] at *
   clear hO hB
   go_wp2_with fail
   go_ret
   exact ⟨rfl,hE⟩
end Go.Proofs.YthlbemnbmbmjhaaGreatDoor
namespace Go.Proofs.YthlbemnbmbmjhaaGreatDoor
structure Tk where
 s : Int
 p : Int
 z : Int
 f : Int
 k : Int
def Tk.list (t : Tk) : List Int:=[t.s,t.p,t.z,t.f,t.k]
def twoOk (fs : List Fd) : Prop:=fs.length = 2 ∧ tgF fs 0 = 1 ∧ tgF fs 1 = 2 ∧ (bsF fs 1).length = 64
instance (fs : List Fd) : Decidable (twoOk fs):=by unfold twoOk; exact inferInstance
end Go.Proofs.YthlbemnbmbmjhaaGreatDoor
namespace Go.Proofs.YthlbemnbmbmjhaaGreatDoor
open Go.RowKit
open Go.Value renaming int → vI
open Go.IntKind renaming u64 → vU
open Go.Act renaming put → aP
open List renaming setIfInBounds_toArray → lA, set_cons_zero → lZ, set_cons_succ → lS
theorem bytes_of_str {bs : List Nat} (hb : Byt bs) (w : World) : ∃ A' c' w',(convert 9 33 (.string (strL bs))).run Tryz.prog w = .ok (.slice A' bs.length c') w' ∧ Ext w w' ∧ bs.length ≤ c' ∧ Bs w' A' bs ∧ Fresh w A' bs:=by
 have h:=run_bytes_of_string (P:=Tryz.prog) w 9 33 5 (strL bs) Tryz.underlying9 Tryz.underlying33 Tryz.underlying5
 rw [zca] at h
 refine ⟨_,_,_,h,(Ext.drew w).trans (Ext.alloc _ _),grownCap_ge _ _ _ _,⟨hb,.inr ⟨w.heap.size,0,rfl,by simp,fun j hj => ?_⟩⟩,.inr fun b o e => by injection e with e; injection e with e; omega⟩
 have hblk : (w.drew.alloc (.cells (bytesRow (strL bs) (grownCap w bs.length 0 5)) 5 ((bytesRow (strL bs) (grownCap w bs.length 0 5)).size,(bytesRow (strL bs) (grownCap w bs.length 0 5)).size + 1))).heap[w.heap.size]? = some (.cells (bytesRow (strL bs) (grownCap w bs.length 0 5)) 5 ((bytesRow (strL bs) (grownCap w bs.length 0 5)).size,(bytesRow (strL bs) (grownCap w bs.length 0 5)).size + 1)):=zag _ _
 rw [Nat.zero_add,cell_of_row _ _ j _ _ _ hblk]
 unfold bytesRow
 have hlt : j < (strL bs).data.size:=by
  show j < (strL bs).size
  rw [zca]; exact hj
 rw [Array.getElem?_append_left (by simpa using hlt)]
 have e : (strL bs).data[j]'hlt = UInt8.ofNat (bs.getD j 0):=by
  simp only [strL]
  rw [List.getD_eq_getElem?_getD,List.getElem?_eq_getElem hj]
  simp
 have hj2:=hb.getD j
 have e3 : (UInt8.ofNat (bs.getD j 0)).toNat = bs.getD j 0:=by
  generalize bs.getD j 0 = x at hj2 ⊢
  simp
  omega
 rw [Array.getElem?_map,Array.getElem?_eq_getElem hlt,Option.map_some,e,e3]
section
variable {Q : Exit → Act → World → Prop} {ops : Array Oper} {rest : List Oper} {a : Act} {w : World} {o : Oper}
theorem wpl_bytes {x : Operand} {bs : List Nat} (hgd : o.guard = none) (hop : o.op = .convert 9 33 x) (hx : a.eval x = .string (strL bs)) (hb : Byt bs)
  (h : ∀ A' c' W,Ext w W → bs.length ≤ c' → Bs W A' bs → Fresh w A' bs → wpList Tryz.prog ops Q rest (a.put o.dst (.slice A' bs.length c')) W) : wpList Tryz.prog ops Q (o :: rest) a w:=by
 refine wpList_plain hgd fun K hK => ?_
 obtain ⟨A',c',w',hr,hE,hc,hB,hF⟩:=bytes_of_str hb w
 unfold Oper.wp execOp
 simp only [hop,hx,Sem.run_bind,hr,Result.andThen_ok,Sem.run_pure]
 exact hK _ _ (h A' c' w' hE hc hB hF)
theorem wpl_append_fd {s x : Operand} {base g c : Nat} {v : Value} {fs : List Fd} {f : Fd} {al : Option Addr × Nat} (hgd : o.guard = none) (hop : o.op = .call { callee:=.builtin .append,args:=#[s,x],argTypes:=#[61,61] })
  (hs : a.eval s = v) (hx : a.eval x = .slice (some ⟨g,0,none⟩) 1 c) (hown : OwnFs w base v fs) (hg : w.heap[g]? = some (.cells #[.int .i64 f.1,.slice al.1 f.2.length al.2] 64 (0,0)))
  (hc : f.2.length ≤ al.2) (hb : Bs w al.1 f.2) (hne : Off al.1 f.2 v.ownBlock) (hn : fs.length ≤ 1000000000) (hbase : base ≤ w.heap.size)
  (h : ∀ v' W,OwnFs W base v' (fs ++ [f]) → w.grownBy W v.ownBlock → wpList Tryz.prog ops Q rest (a.put o.dst v') W) : wpList Tryz.prog ops Q (o :: rest) a w:=by
 refine wpList_plain hgd fun K hK => ?_
 obtain ⟨v',w',hr,hO,hG⟩:=zge (c1:=c) o.type hown g f al hg hc hb hne hn hbase
 unfold Oper.wp execOp
 simp only [hop,resolve,invoke,builtin,Sem.run_bind,Sem.run_pure,Result.andThen_ok,List.map_toArray,List.map_cons,List.map_nil,hs,hx,hr]
 exact hK _ _ (h v' w' hO hG)
end
theorem zbp {bs : List Nat} : getFs bs = match parse bs with | some fs => if mayFs fs = true then some fs else none | none => none:=by
 unfold getFs
 cases parse bs with
 | none => rfl
 | some fs => cases h : mayFs fs <;> simp [Option.filter,h]
theorem rget8_calls (A : Option Addr) (m c : Nat) (bs : List Nat) (hm : m = bs.length) (hmc : m ≤ c) (hle : m ≤ 100000000) (w : World) (hS : Bs w A bs) :
  Calls Tryz.prog 33 #[.slice A m c] w fun e w' => Ext w w' ∧ ((getFs bs = none ∧ e = .returned (.tuple #[.slice none 0 0,.bool false])) ∨ (∃ fs v,getFs bs = some fs ∧ Fl w' v fs ∧ e = .returned (.tuple #[v,.bool true]))):=by
 have HS:=veil hS
 have HM:=veil hm
 clear hS hm
 go_enter Tryz.func33,Tryz.ntmps33
 go_wp2
 go_loopw [4,5,6] (fun v u _ wr => ∃ (p : Nat) (fs : List Fd),p ≤ m ∧ u = .int .i64 (p : Int) ∧ OwnFs wr w.heap.size v fs ∧ fs.length ≤ p ∧ parse bs = (parse (bs.drop p)).map (fs ++ ·) ∧ Ext w wr)
  (fun _ v _ _ => m - (intOf v).toNat)
 case atStart => exact ⟨0,[],by omega,rfl,OwnFs.nil _ _,by simp,by simp,Ext.refl _⟩
 case round =>
  obtain ⟨p,fs,hp,rfl,hO,hfl,hpar,hE⟩:=hrel
  by_cases hlt : p < m
  ·
   have hd1 : decide ((p : Int) < (m : Int)) = true:=by simp; omega
   have hii : (p : Int) < (m : Int):=by omega
   by_cases h3 : m < p + 3
   ·
    have hd2 : decide ((m : Int) < (p : Int) + 3) = true:=by simp; omega
    have hn : getFs bs = none:=by
     rw [zbp,hpar,parse_short (by have:=HM.out; omega) (by have:=HM.out; omega)]
     rfl
    clear hpar hO
    go_wp2
    go_ret2
    exact ⟨hE,.inl ⟨hn,rfl⟩⟩
   ·
    have hd2 : decide ((m : Int) < (p : Int) + 3) = false:=by simp; omega
    have hb:=HS.out.ext hE
    obtain ⟨b,o,hA,hbl,c1⟩:=hb.cell (j:=p + 1) (by have:=HM.out; omega)
    obtain ⟨b',o',hA',_,c2⟩:=hb.cell (j:=p + 2) (by have:=HM.out; omega)
    obtain ⟨b'',o'',hA'',_,c0⟩:=hb.cell (j:=p) (by have:=HM.out; omega)
    obtain ⟨e1,e2⟩ : b' = b ∧ o' = o:=by rw [hA] at hA'; injection hA' with h; injection h with h1 h2; exact ⟨h1.symm,h2.symm⟩
    obtain ⟨e3,e4⟩ : b'' = b ∧ o'' = o:=by rw [hA] at hA''; injection hA'' with h; injection h with h1 h2; exact ⟨h1.symm,h2.symm⟩
    subst e1 e2 e3 e4
    have l1:=HS.out.1.getD (p + 1)
    have l2:=HS.out.1.getD (p + 2)
    have l0:=HS.out.1.getD p
    obtain ⟨X,hX⟩ : ∃ X,X = bs.getD (p + 1) 0:=⟨_,rfl⟩
    obtain ⟨Y,hY⟩ : ∃ Y,Y = bs.getD (p + 2) 0:=⟨_,rfl⟩
    obtain ⟨T,hT⟩ : ∃ T,T = bs.getD p 0:=⟨_,rfl⟩
    rw [← hX] at c1 l1
    rw [← hY] at c2 l2
    rw [← hT] at c0 l0
    have HXY:=veil (And.intro hX (And.intro hY hT))
    have k1 : (X : Int) ≤ 255:=by omega
    have k2 : (Y : Int) ≤ 255:=by omega
    have k0 : (T : Int) ≤ 255:=by omega
    have i1 : (p : Int) + 1 < (m : Int):=by omega
    have i2 : (p : Int) + 2 < (m : Int):=by omega
    have HO:=veil (And.intro hO (And.intro hfl hpar))
    have HB:=veil hb
    clear hX hY hT l1 l2 l0 hA' hA'' hO hfl hpar hb
    subst hA
    go_wp2_with fail
    go_quiet (fail)
    obtain ⟨N,hN⟩ : ∃ N,N = 256 * X + Y:=⟨_,rfl⟩
    have hNi : (256 * (X : Int) + (Y : Int)) = (N : Int):=by omega
    have hN2 : N ≤ 65535:=by omega
    have HN:=veil hN
    rw [hNi]
    clear hN hNi c1 c2 k1 k2 i1 i2
    generalize hwr : wr.drewN nq = wr1 at *
    have hE1 : Ext wr wr1:=by rw [← hwr]; exact Ext.drewK _ _
    have hc0 : wr1.cell? ⟨b'',o'' + p,none⟩ = some (.int .u8 T):=(hE1.cell hbl).trans c0
    have hEE:=hE.trans hE1
    have HO1:=veil (And.intro (HO.out.1.keep hE1) (HB.out.ext hE1))
    clear hwr c0
    by_cases h4 : m < p + 3 + N
    ·
     have hd3 : decide ((m : Int) < (p : Int) + 3 + (N : Int)) = true:=by simp; omega
     have hn : getFs bs = none:=by
      rw [zbp,HO.out.2.2,parse_long (n:=N) (by have:=HM.out; omega) (by rw [HN.out,HXY.out.1,HXY.out.2.1]) (by have:=HM.out; omega)]
      rfl
     go_wp2
     go_ret2
     exact ⟨hEE,.inl ⟨hn,rfl⟩⟩
    ·
     have hd3 : decide ((m : Int) < (p : Int) + 3 + (N : Int)) = false:=by simp; omega
     have hst:=parse_more (n:=N) (by have:=HM.out; omega) (by rw [HN.out,HXY.out.1,HXY.out.2.1]) (by have:=HM.out; omega : p + 3 + N ≤ bs.length)
     have HST:=veil hst
     clear hst
     go_upto_region 9 with (fail)
     refine zcj 18 [(true,[0,1,2,3,4,5,7,8,9,10,11,12,13,14]),(false,[6]),(false,[15]),(true,[16]),(false,[17]),(false,[18]),(false,[19])] (by kernel_rfl) (by kernel_rfl) fun Q' hQ' => ?_
     refine' zbc (A:=_) _ rfl (by kernel_rfl) ?h1 ?h2
     case h1 =>
      intro D hD hN
      have d0:=hD.cell hc0
      simp only [pickI,consO,List.getElem?_cons_zero,List.getElem?_cons_succ]
      iterate 13 (go_big_quiet_step (fail))
      go_big_quiet_want
      refine zdg (.slice (cutA (some ⟨b'',o'',none⟩) (p + 3) c) N (c - (p + 3))) (fun x => zbw rfl rfl rfl rfl (zek _ _ _ _ _ (by omega) _ (by omega) (by omega))) ?_
      simp only [aP,lA,lZ,lS]
      go_big_quiet_on
      exact zbu
     refine zcx (vs:=[]) (C:=#[]) (e:=5) _ rfl rfl rfl rfl rfl (fun W => by simp [Instr.buildSlice,go_sem]) ?_
     intro g W hg hgb hEW
     simp only [aP,lA,lZ,lS]
     have hBc:=(HO1.out.2.cut (p + 3) (n:=N) (c:=c) (by have:=HM.out; omega) (by have:=HM.out; omega)).ext hEW
     have hl : N = ((bs.drop (p + 3)).take N).length:=by rw [List.length_take,List.length_drop]; have:=HM.out; omega
     refine sched_append0 _ rfl rfl rfl rfl rfl rfl hgb hBc hl (by omega) ?_
     intro A' c' W2 hE2 hc' hB' hF'
     simp only [aP,lA,lZ,lS]
     have HB2:=veil (And.intro hB' (And.intro hF' hl))
     have hEW2:=hEW.trans hE2
     have hsz:=Below.size hEW
     clear hB' hF' hl hBc hgb hg hE2 hEW
     refine' zbc (A:=_) _ rfl (by kernel_rfl) ?k1 ?k2
     case k1 =>
      intro D hD hN
      simp only [pickI,consO,List.getElem?_cons_zero,List.getElem?_cons_succ]
      repeat (go_big_quiet_step (fail))
      exact zbu
     refine zcx (vs:=[(0,.agg #[.int .i64 (T : Int),.slice A' N c'])]) (C:=#[.int .i64 (T : Int),.slice A' N c']) (e:=64) _ rfl rfl rfl rfl rfl (fun W => by simp [Instr.buildSlice,go_sem]) ?_
     intro g2 W3 hg2 hgb2 hE3
     simp only [aP,lA,lZ,lS]
     have hEW3:=hEW2.trans hE3
     have hown3:=HO1.out.1.keep hEW3
     have hoff : Off A' ((bs.drop (p + 3)).take N) (Value.ownBlock u4):=HB2.out.2.1.off fun k hk => Nat.lt_of_lt_of_le (HO1.out.1.lt hk).2 hsz
     have hBn:=HB2.out.1.ext hE3
     have hbase:=Nat.le_trans (Below.size hEE) (Below.size hEW3)
     have hNl:=HB2.out.2.2
     have hfl : fs.length ≤ 1000000000:=by have:=HO.out.2.1; omega
     rw [hNl] at hgb2 hc'
     refine zeq (f:=((T : Int),(bs.drop (p + 3)).take N)) (al:=(A',c')) _ rfl rfl rfl rfl rfl rfl (by decide) hown3 hgb2 hc' hBn hoff hfl hbase ?_
     intro v' W4 W5 hE4 hO5 hG5
     simp only [aP,lA,lZ,lS]
     have hE5 : Ext w W5:=(hEE.trans (hEW3.trans hE4)).grown hG5 (Below.size (hEE.trans (hEW3.trans hE4))) fun k hk => (HO1.out.1.lt hk).1
     have HO5:=veil (And.intro hO5 hE5)
     clear hown3 hoff hBn hbase hNl hgb2 hc' hO5 hE5 hG5
     refine zhb v' _ rfl rfl rfl rfl rfl ?_
     intro W6 hE6
     simp only [aP,lA,lZ,lS]
     refine zcb hQ' fun W7 hE7 => ?_
     go_wp2
     go_roundw
     case rel =>
      refine ⟨p + 3 + N,_,by omega,by go_num,(HO5.out.1.keep hE6).keep hE7,?_,?_,HO5.out.2.trans (hE6.trans hE7)⟩
      ·
       rw [List.length_append,List.length_singleton]; have:=HO.out.2.1; omega
      ·
       rw [HO.out.2.2,HST.out,← HXY.out.2.2]
       cases parse (bs.drop (p + 3 + N)) with
       | none => rfl
       | some x => simp
     case measure => simp [intOf]; omega
  ·
   obtain rfl : p = m:=by omega
   have hd1 : decide ((p : Int) < (p : Int)) = false:=by simp
   have hpar2 : parse bs = some fs:=by
    rw [hpar,HM.out,parse_end]
    simp
   have hF:=hO.fl
   have HP:=veil (And.intro hpar2 (And.intro hF hE))
   have hfb : fs.length ≤ 1000000000:=by omega
   have KM:=veil (fun v hv => rmay8_calls v fs wr hv hfb)
   clear hpar hpar2 hF hO
   go_upto_region 12 with (go_at_call 58; refine (KM.out _ HP.out.2.1).mono ?_; rintro e w2 ⟨rfl,hE2⟩)
   cases hmay : mayFs fs with
   | false =>
    have hn : getFs bs = none:=by
     rw [zbp,HP.out.1]
     simp [hmay]
    go_wp2
    go_ret2
    exact ⟨HP.out.2.2.trans hE2,.inl ⟨hn,rfl⟩⟩
   | true =>
    have hn : getFs bs = some fs:=by
     rw [zbp,HP.out.1]
     simp [hmay]
    go_wp2
    go_ret2
    exact ⟨HP.out.2.2.trans hE2,.inr ⟨fs,_,hn,HP.out.2.1.ext hE2,rfl⟩⟩
theorem valB_le {bs : List Nat} (h : Byt bs) (h0 : bs.getD 0 0 ≤ 127) (hl : bs.length = 8) {i : Nat} (hi : i < 8) : valB (bs.take (i + 1)) ≤ 9223372036854775807:=by
 have h1:=valB_lt h h0 i (by omega)
 have h2 : 128 * 256 ^ i ≤ 128 * 256 ^ 7:=Nat.mul_le_mul_left _ (Nat.pow_le_pow_right (by decide) (by omega))
 have : (128 : Nat) * 256 ^ 7 = 9223372036854775808:=by decide
 omega
theorem zgm (A : Option Addr) (m c : Nat) (bs : List Nat) (hm : m = bs.length) (w : World) (hS : Bs w A bs) :
  Calls Tryz.prog 35 #[.slice A m c] w fun e w' => e = .returned (.int .i64 (ofB bs)) ∧ Ext w w':=by
 have HS:=veil (And.intro hS hm)
 by_cases h8 : m = 8
 ·
  subst h8
  obtain ⟨b,o,hA,hb,c0⟩:=hS.cell (j:=0) (by omega)
  rw [Nat.add_zero] at c0
  have l0:=hS.1.getD 0
  obtain ⟨R,hR⟩ : ∃ R,R = ofB bs:=⟨_,rfl⟩
  rw [← hR]
  obtain ⟨X,hX⟩ : ∃ X,X = bs.getD 0 0:=⟨_,rfl⟩
  rw [← hX] at c0 l0
  have HX:=veil (And.intro hR hX)
  subst hA
  clear hS hm hR hX
  have k0 : (X : Int) ≤ 255:=by omega
  by_cases hx : 127 < X
  ·
   have hd : decide ((127 : Int) < (X : Int)) = true:=by simp; omega
   have hd2 : decide (127 < X) = true:=by simp; omega
   have hr : R = -1:=by
    rw [HX.out.1]
    unfold ofB
    rw [if_neg]
    intro h
    have:=HX.out.2
    omega
   subst hr
   go_enter Tryz.func35,Tryz.ntmps35
   go_wp2_with fail
   go_ret
   exact ⟨rfl,Ext.refl _⟩
  ·
   have hd : decide ((127 : Int) < (X : Int)) = false:=by simp; omega
   have hd2 : decide (127 < X) = false:=by simp; omega
   have hr : R = (valB bs : Nat):=by
    rw [HX.out.1]
    unfold ofB
    rw [if_pos]
    have:=HX.out.2
    have:=HS.out.2
    omega
   have HR:=veil hr
   have hx0 : bs.getD 0 0 ≤ 127:=by rw [← HX.out.2]; omega
   have HV:=veil (fun (i : Nat) (hi : i < 8) => valB_le HS.out.1.1 hx0 HS.out.2.symm hi)
   clear hr hx0
   go_enter Tryz.func35,Tryz.ntmps35
   go_wp2_with fail
   go_loopw [3,4] (fun v u wr => ∃ i : Nat,i ≤ 8 ∧ u = .int .i64 (i : Int) ∧ v = .int .i64 ((valB (bs.take i) : Nat) : Int) ∧ Ext w wr)
    (fun _ v _ => 8 - (intOf v).toNat)
   case atStart => exact ⟨0,by omega,rfl,rfl,Ext.refl _⟩
   case round =>
    obtain ⟨i,hi,rfl,rfl,hE⟩:=hrel
    by_cases hlt : i < 8
    ·
     have hii : (i : Int) < 8:=by omega
     obtain ⟨b2,o2,hA,_,c1⟩:=(HS.out.1.ext hE).cell (j:=i) (by have:=HS.out.2; omega)
     obtain ⟨e1,e2⟩ : b2 = b ∧ o2 = o:=by injection hA with h; injection h with h1 h2; exact ⟨h1.symm,h2.symm⟩
     subst e1 e2
     have l1:=HS.out.1.1.getD i
     have hv:=HV.out i hlt
     rw [zbj (by have:=HS.out.2; omega)] at hv
     obtain ⟨V,hV⟩ : ∃ V,V = valB (bs.take i):=⟨_,rfl⟩
     obtain ⟨Y,hY⟩ : ∃ Y,Y = bs.getD i 0:=⟨_,rfl⟩
     rw [← hV,← hY] at hv
     rw [← hY] at c1 l1
     rw [← hV]
     have HVY:=veil (And.intro hV hY)
     have k1 : (Y : Int) ≤ 255:=by omega
     have k2 : 256 * (V : Int) + (Y : Int) ≤ 9223372036854775807:=by omega
     clear hV hY hv l1 hA
     go_wp2
     go_roundw
     case rel =>
      refine ⟨i + 1,by omega,by go_num,?_,hE⟩
      rw [zbj (by have:=HS.out.2; omega),← HVY.out.1,← HVY.out.2]
      simp
     case measure => simp [intOf]; omega
    ·
     obtain rfl : i = 8:=by omega
     have e : bs.take 8 = bs:=List.take_of_length_le (by have:=HS.out.2; omega)
     rw [e]
     go_wp2
     go_ret
     exact ⟨by rw [HR.out]; rfl,hE⟩
 ·
  have hr : ofB bs = -1:=by
   unfold ofB
   rw [if_neg]
   intro h
   omega
  rw [hr]
  have h8' : ¬ ((m : Int) = 8):=by omega
  clear hr hS hm
  go_enter Tryz.func35,Tryz.ntmps35
  go_wp2_with fail
  go_ret
  exact ⟨rfl,Ext.refl _⟩
def PutA (w' : World) (fs : List Fd) (x ev : Value) : Prop :=
 (mayFs fs = false ∧ (∃ A c,x = .slice A 0 c) ∧ ev = .iface 39 (.int .i64 1)) ∨
 (mayFs fs = true ∧ ev = .nilIface ∧ ∃ A c,x = .slice A (encF fs).length c ∧ (encF fs).length ≤ c ∧ Bs w' A (encF fs))
def GetA (w' : World) (bs : List Nat) (x ev : Value) : Prop :=
 (getFs bs = none ∧ (∃ A c,x = .slice A 0 c) ∧ ev = .iface 39 (.int .i64 2)) ∨ (∃ fs,getFs bs = some fs ∧ ev = .nilIface ∧ Fl w' x fs)
def OfA (bs : List Nat) (x ev : Value) : Prop:=(ofB bs < 0 ∧ x = .int .i64 0 ∧ ev = .iface 39 (.int .i64 2)) ∨ (0 ≤ ofB bs ∧ x = .int .i64 (ofB bs) ∧ ev = .nilIface)
def RGetA (w' : World) (bs : List Nat) (x y : Value) : Prop:=(getFs bs = none ∧ x = .slice none 0 0 ∧ y = .bool false) ∨ (∃ fs,getFs bs = some fs ∧ Fl w' x fs ∧ y = .bool true)
theorem rget8_any (A : Option Addr) (m c : Nat) (bs : List Nat) (hm : m = bs.length) (hmc : m ≤ c) (hle : m ≤ 100000000) (w : World) (hS : Bs w A bs) :
  Calls Tryz.prog 33 #[.slice A m c] w fun e w' => ∃ x y,e = .returned (.tuple #[x,y]) ∧ Ext w w' ∧ RGetA w' bs x y :=
 (rget8_calls A m c bs hm hmc hle w hS).mono fun e w' ⟨hE,h⟩ => by
  rcases h with ⟨h,rfl⟩ | ⟨fs,v,h,hF,rfl⟩
  ·
   exact ⟨_,_,rfl,hE,.inl ⟨h,rfl,rfl⟩⟩
  ·
   exact ⟨_,_,rfl,hE,.inr ⟨fs,h,hF,rfl⟩⟩
structure Code8 : Prop where
 may : ∀ (v : Value) (fs : List Fd) (w : World),Fl w v fs → fs.length ≤ 1000000000 → Calls Tryz.prog 51 #[v] w fun e w' => e = .returned (.bool (mayFs fs)) ∧ Ext w w'
 put : ∀ (v : Value) (fs : List Fd) (w : World),Fl w v fs → fs.length ≤ 1000000000 → Calls Tryz.prog 27 #[v] w fun e w' => ∃ x ev,e = .returned (.tuple #[x,ev]) ∧ Ext w w' ∧ PutA w' fs x ev
 get : ∀ (A : Option Addr) (m c : Nat) (bs : List Nat) (w : World),m = bs.length → m ≤ c → m ≤ 100000000 → Bs w A bs → Calls Tryz.prog 31 #[.slice A m c] w fun e w' => ∃ x ev,e = .returned (.tuple #[x,ev]) ∧ Ext w w' ∧ GetA w' bs x ev
 number : ∀ (n : Int) (w : World),-9223372036854775808 ≤ n → n ≤ 9223372036854775807 → Calls Tryz.prog 50 #[.int .i64 n] w fun e w' => ∃ A c,e = .returned (.slice A 8 c) ∧ 8 ≤ c ∧ Bs w' A (numB n) ∧ Ext w w'
 of : ∀ (A : Option Addr) (m c : Nat) (bs : List Nat) (w : World),m = bs.length → m ≤ c → Bs w A bs → Calls Tryz.prog 56 #[.slice A m c] w fun e w' => ∃ x ev,e = .returned (.tuple #[x,ev]) ∧ Ext w w' ∧ OfA bs x ev
theorem neErr1 (w : World) : (binOp .neq 35 (.iface 39 (.int .i64 1)) (.iface 39 (.int .i64 1))).run Tryz.prog w = .ok (.bool false) w:=by kernel_rfl
def tkC (t : Tk) : Array Value:=#[.int .i64 t.s,.int .i64 t.p,.int .i64 t.z,.int .i64 t.f,.int .i64 t.k]
theorem iTk (t : Tk) : (Tryz.prog.info? 47).map (·.size) = some (tkC t).size:=by
 show _ = some 5
 kernel_rfl
theorem tkC_one (t : Tk) : (tkC t).all (·.oneCell') = true:=by simp [tkC,Value.oneCell']
theorem infoN4 : (Tryz.prog.info? 27).map (·.size) = some 4:=by kernel_rfl
def nc (x : Nat) : Array Value:=#[vI vU (wd x 0),vI vU (wd x 1),vI vU (wd x 2),vI vU (wd x 3)]
def nv (x : Nat) : Value:=.agg (nc x)
theorem nc_one (x : Nat) : (nc x).all (·.oneCell') = true:=by simp [nc,Value.oneCell']
theorem iN (x : Nat) : (Tryz.prog.info? 27).map (·.size) = some (nc x).size:=by exact infoN4
theorem uN : Tryz.prog.underlying 27 = some (.array 4 25):=Tryz.underlying27
section
variable {P : Program} {o : Oper} {a : Act} {w : World}
theorem zaf {f : FuncId} {fn : Func} {c : Code} (hf : P.funcs[f]? = some fn) (hname : (fn.name == "runtime.NumGoroutine") = false) (hb : fn.body = some c) (args : Array Value) (w : World) :
  (callFunc f args).run P w = .ok (.enter f args) w:=by
 have hn : ¬ fn.name = "runtime.NumGoroutine":=by simpa using hname
 simp [callFunc,go_sem,hf,hb,hn]
theorem zat {k : FuncId} {xs : List Operand} {ts : Array TypeId} {args : List Value} {v : Value} (ho : o.op = .call { callee:=.value (.func k),args:=xs.toArray,argTypes:=ts }) (hx : xs.map a.eval = args)
  (he : ∀ W,(callFunc k args.toArray).run P W = .ok (.enter k args.toArray) W) (hc : ∀ W,Ext w W → Calls P k args.toArray W fun e W' => e = .returned v ∧ Ext W W') : Made P o v a w :=
 made_call (fun W => by
  have h1 : execOp a.eval o = callFunc k (#[] ++ xs.toArray.map a.eval ++ #[]):=by
   cases o
   subst ho
   rfl
  rw [h1,List.map_toArray,hx]
  simpa using he W) hc
theorem zhh {k : FuncId} {xs : List Operand} {ts : Array TypeId} {args : List Value} {v p : Value} {f : Tmp} (ho : o.op = .call { callee:=.value (.tmp f),args:=xs.toArray,argTypes:=ts }) (hf : a.eval (.tmp f) = .func (.func k) #[p] #[]) (hx : xs.map a.eval = args)
  (he : ∀ W,(callFunc k (p :: args).toArray).run P W = .ok (.enter k (p :: args).toArray) W) (hc : ∀ W,Ext w W → Calls P k (p :: args).toArray W fun e W' => e = .returned v ∧ Ext W W') : Made P o v a w :=
 made_call (fun W => by
  unfold execOp
  simp only [ho,resolve,hf,List.map_toArray,hx,Deferred.ofValue,Sem.run_bind,Sem.run_pure,Result.andThen_ok,invoke]
  simpa using he W) hc
theorem zfb {x : Operand} {ty ty2 : TypeId} {c : Int} {v : Bool} (ho : o.op = .binOp .geq ty x (.const (.int .i64 0)) ty2) (hx : a.eval x = .int .i64 c) (hv : decide (0 ≤ c) = v) : Made P o (.bool v) a w:=zaw fun W _ => by
 have h0 : a.eval (.const (.int .i64 0)) = .int .i64 0:=rfl
 unfold execOp
 simp only [ho]
 generalize a.eval = ρ at *
 subst hv
 rw [hx,h0]
 simp [go_sem,eqGuard]
theorem zei {ty : TypeId} {x : Operand} {lo hi mx : Option Operand} {u v : Value} (ho : o.op = .slice ty x lo hi mx) (hx : a.eval x = u)
  (h : ∀ W,(Instr.sliceAt ty u (lo.map a.eval) (hi.map a.eval) (mx.map a.eval)).run P W = .ok v W) : Made P o v a w:=zaw fun W _ => by
 unfold execOp
 simp only [ho,hx,Sem.run_bind,h W,Result.andThen_ok,Sem.run_pure]
theorem neq_of {t : TypeId} {c d : Array Value} {b r : Bool} {W : World} (h : (binOp .eql t (.agg c) (.agg d)).run P W = .ok (.bool b) W) (hr : (!b) = r) : (binOp .neq t (.agg c) (.agg d)).run P W = .ok (.bool r) W:=by
 subst hr
 have h1 : (do pure (Value.bool (← Op.equal t (.agg c) (.agg d))) : Sem Value).run P W = .ok (.bool b) W:=h
 show (do pure (Value.bool (!(← Op.equal t (.agg c) (.agg d)))) : Sem Value).run P W = .ok (.bool (!b)) W
 simp only [Sem.run_bind,Sem.run_pure] at h1 ⊢
 generalize (Op.equal t (.agg c) (.agg d)).run P W = r at h1 ⊢
 cases r with
 | ok v w' =>
  simp only [Result.andThen_ok,Result.ok.injEq,Value.bool.injEq] at h1 ⊢
  exact ⟨by rw [h1.1],h1.2⟩
 | halt x w' => simp [Result.andThen] at h1
end
section
variable (W : World)
theorem hzN : (Instr.alloc 27 true (.tuple #[])).run Tryz.prog W = .ok (ptrTo W.heap.size) (W.alloc (.cells #[vI vU 0,vI vU 0,vI vU 0,vI vU 0] 27)):=by simp [Instr.alloc,go_sem]
theorem wd_z : wd 0 0 = 0 ∧ wd 0 1 = 0 ∧ wd 0 2 = 0 ∧ wd 0 3 = 0:=by decide
end
theorem heap_is {w : World} {o : Obj} {k : Nat} (hk : k = w.heap.size) : (w.alloc o).heap[k]? = some o:=by subst hk; exact zag w o
theorem blocks1 (w : World) (A : Obj) : Ext w (w.alloc A) ∧ (w.alloc A).heap[w.heap.size]? = some A:=⟨Ext.alloc _ _,heap_is rfl⟩
theorem blocks2 (w : World) (A B : Obj) : Ext w ((w.alloc A).alloc B) ∧ ((w.alloc A).alloc B).heap[w.heap.size]? = some A ∧ ((w.alloc A).alloc B).heap[w.heap.size + 1]? = some B :=
 ⟨(Ext.alloc _ _).trans (Ext.alloc _ _),(Ext.alloc _ _).block (heap_is rfl),heap_is (by simp)⟩
theorem zfn {P : Program} {c : Code} {Q : Exit → Act → World → Prop} {a : Act} {w : World} {A : Obj} (h : ∀ w1,Ext w w1 → w1.heap[w.heap.size]? = some A → c.wp P Q a w1) : c.wp P Q a (w.alloc A):=h _ (blocks1 w A).1 (blocks1 w A).2
theorem zgw {P : Program} {c : Code} {Q : Exit → Act → World → Prop} {a : Act} {w : World} {A B : Obj} (h : ∀ w1,Ext w w1 → w1.heap[w.heap.size]? = some A → w1.heap[w.heap.size + 1]? = some B → c.wp P Q a w1) : c.wp P Q a ((w.alloc A).alloc B):=h _ (blocks2 w A B).1 (blocks2 w A B).2.1 (blocks2 w A B).2.2
theorem Ext.new {w w1 W : World} {r : Nat} (h : Ext w w1) (k : But r w1 W) (hr : w.heap.size ≤ r) : Ext w W:=Below.trans h (k.new hr (Below.size h))
theorem zfu {P : Program} {o : Oper} {a : Act} {w : World} {ty : TypeId} {x : Operand} {b r : Bool} (ho : o.op = .unOp .not ty x) (hx : a.eval x = .bool b) (hr : (!b) = r) : Made P o (.bool r) a w:=hr ▸ made_not ho hx
theorem hsN (X : Nat) : (#[vI vU 0,vI vU 0,vI vU 0,vI vU 0] : Array Value).size = (nc X).size:=by simp [nc]
def qc (x y : Nat) (f : Bool) : Array Value:=#[vI vU (wd x 0),vI vU (wd x 1),vI vU (wd x 2),vI vU (wd x 3),vI vU (wd y 0),vI vU (wd y 1),vI vU (wd y 2),vI vU (wd y 3),.bool (f)]
def qv (x y : Nat) (f : Bool) : Value:=.agg (qc x y f)
theorem zex (x y : Nat) (f : Bool) : (qc x y f).all (·.oneCell') = true:=by simp [qc,Value.oneCell']
theorem iT (x y : Nat) (f : Bool) : (Tryz.prog.info? 29).map (·.size) = some (qc x y f).size:=by kernel_rfl
theorem zda (W : World) : (isAgg 4).run Tryz.prog W = .ok false W:=by simp [isAgg,go_sem]
section
variable (g : Nat) (W : World)
theorem fldT0 : (Instr.fieldAt 29 (ptrTo g) 0).run Tryz.prog W = .ok (.pointer (some ⟨g,0,none⟩)) W:=by simp [Instr.fieldAt,go_sem]
theorem fldT1 : (Instr.fieldAt 29 (ptrTo g) 1).run Tryz.prog W = .ok (.pointer (some ⟨g,4,none⟩)) W:=by simp [Instr.fieldAt,go_sem]
theorem fldT2 : (Instr.fieldAt 29 (ptrTo g) 2).run Tryz.prog W = .ok (.pointer (some ⟨g,8,none⟩)) W:=by simp [Instr.fieldAt,go_sem]
theorem hzT : (Instr.alloc 29 true (.tuple #[])).run Tryz.prog W = .ok (ptrTo W.heap.size) (W.alloc (.cells #[vI vU 0,vI vU 0,vI vU 0,vI vU 0,vI vU 0,vI vU 0,vI vU 0,vI vU 0,.bool false] 29)):=by simp [Instr.alloc,go_sem]
theorem bldT (x y : Nat) : (Instr.build 29 [(0,nv x),(1,nv y)].toArray).run Tryz.prog W = .ok (qv x y false) W:=by simp [Instr.build,go_sem,nv,nc,qv,qc]
theorem bldT0 : (Instr.build 29 [].toArray).run Tryz.prog W = .ok (qv 0 0 false) W:=by
 obtain ⟨h0,h1,h2,h3⟩:=wd_z
 unfold qv qc
 rw [h0,h1,h2,h3]
 simp [Instr.build,go_sem]
end
theorem eqT {X Y : Nat} {f : Bool} (hX : X < top) (hY : Y < top) (W : World) : (binOp .eql 29 (qv X Y f) (qv X Y f)).run Tryz.prog W = .ok (.bool true) W:=by
 have e:=eql_pt hX hY hX hY f f W
 rw [decide_eq_true ⟨rfl,rfl,rfl⟩] at e
 exact e
theorem gT (X Y X' Y' : Nat) (f f' : Bool) (op : BinOp) (x y : Operand) (W : World) : (eqGuard op 29 x y (qv X Y f) (qv X' Y' f')).run Tryz.prog W = .ok () W:=by
 unfold qv qc
 cases op <;> simp [eqGuard,go_sem]
theorem mkErr2 (W : World) : (Instr.makeInterface 39 (.int .i64 2)).run Tryz.prog W = .ok (.iface 39 (.int .i64 2)) W:=by simp [Instr.makeInterface,go_sem]
theorem made_eqn {o : Oper} {a : Act} {w : World} {x y : Operand} {X Y : Nat} (ho : o.op = .binOp .eql 27 x y 27) (hx : a.eval x = nv X) (hy : a.eval y = nv Y) (lX : X < top) (lY : Y < top) : Made Tryz.prog o (.bool (decide (X = Y))) a w:=zaw fun W _ => by
 have k:=eql_num lX lY W
 unfold execOp
 simp only [ho]
 generalize a.eval = ρ at *
 rw [hx,hy]
 unfold nv nc at *
 have hg : (eqGuard .eql 27 x y (.agg #[vI vU (wd X 0),vI vU (wd X 1),vI vU (wd X 2),vI vU (wd X 3)]) (.agg #[vI vU (wd Y 0),vI vU (wd Y 1),vI vU (wd Y 2),vI vU (wd Y 3)])).run Tryz.prog W = .ok () W:=by simp [eqGuard,go_sem]
 simp only [Sem.run_bind,hg,Result.andThen_ok,k,Sem.run_pure]
def gc (r s : Nat) : Array Value:=#[vI vU (wd r 0),vI vU (wd r 1),vI vU (wd r 2),vI vU (wd r 3),vI vU (wd s 0),vI vU (wd s 1),vI vU (wd s 2),vI vU (wd s 3)]
theorem gc_one (r s : Nat) : (gc r s).all (·.oneCell') = true:=by simp [gc,Value.oneCell']
theorem iSg (r s : Nat) : (Tryz.prog.info? 78).map (·.size) = some (gc r s).size:=by kernel_rfl
section
variable (g : Nat) (W : World)
end
structure Low where
def Z8 : Array Value:=#[vI vU 0,vI vU 0,vI vU 0,vI vU 0,vI vU 0,vI vU 0,vI vU 0,vI vU 0]
theorem z8_gc : Z8 = gc 0 0:=by
 obtain ⟨h0,h1,h2,h3⟩:=wd_z
 unfold gc Z8
 rw [h0,h1,h2,h3]
theorem iZ8 : (Tryz.prog.info? 78).map (·.size) = some Z8.size:=by kernel_rfl
theorem z8_one : Z8.all (·.oneCell') = true:=by simp [Z8,Value.oneCell']
theorem run_load_v {P : Program} {o : Oper} {a : Act} {ty : TypeId} {x : Operand} {g t : Nat} {cs : Array Value} {fr : Nat × Nat} {d : TypeDesc} {W : World} (ho : o.op = .load ty x) (hx : a.eval x = .pointer (some ⟨g,0,none⟩)) (hb : W.heap[g]? = some (.cells cs t fr))
  (hu : P.underlying ty = some d) (hd : d.isRow = true) (hi : (P.info? ty).map (·.size) = some cs.size) : (execOp a.eval o).run P W = .ok (.value (.agg cs)) W:=by
 have hl : (loadVar ty ⟨g,0,none⟩).run P W = .ok (.agg cs) W:=run_loadVar_mid W g 0 ty cs.toList d (fun j v hv => by rw [cell_of_row W g (0 + j) cs t fr hb,Nat.zero_add]; simpa using hv) hu hd (by simpa using hi)
 unfold execOp
 simp only [ho,hx,Instr.loadAt,Instr.sureAddr,Sem.run_bind,Sem.run_pure,Result.andThen_ok,hl]
theorem zdr {P : Program} {o : Oper} {a : Act} {ty : TypeId} {parts : List (Nat × Operand)} {vs : List (Nat × Value)} {v : Value} {W : World} (ho : o.op = .build ty parts.toArray) (hx : parts.map (fun p => (p.1,a.eval p.2)) = vs)
  (hb : (Instr.build ty vs.toArray).run P W = .ok v W) : (execOp a.eval o).run P W = .ok (.value v) W:=by
 unfold execOp
 simp only [ho,List.map_toArray]
 rw [show (parts.map fun x => match x with | (i,x) => (i,a.eval x)) = vs from hx]
 simp only [Sem.run_bind,hb,Result.andThen_ok,Sem.run_pure]
theorem Up.block {w : World} {D : World → Prop} (h : Up w D) {g : Nat} {o : Obj} (hb : w.heap[g]? = some o) (x : Gw D) : x.val.heap[g]? = some o:=(h.grown _ x.property).block hb
def TZ : Array Value:=#[.int .i64 0,.int .i64 0,.int .i64 0,.int .i64 0,.int .i64 0]
theorem iTZ : (Tryz.prog.info? 47).map (·.size) = some TZ.size:=by kernel_rfl
theorem tz_one : TZ.all (·.oneCell') = true:=by simp [TZ,Value.oneCell']
theorem results_two {P : Program} {fn : Func} {q p s : Tmp} {ty ty2 : TypeId} (h : fn.results = #[.cell q ty,.cell p ty2,.tmp s]) (tmps : Array Value) (w : World) (g g2 : Nat) (t t2 : TypeId) (cs cs2 : Array Value) (fr fr2 : Nat × Nat) (d d2 : TypeDesc)
  (hq : tmps.getD q undef = .pointer (some ⟨g,0,none⟩)) (hg : w.heap[g]? = some (.cells cs t fr)) (hu : P.underlying ty = some d) (hd : d.isRow = true) (hi : (P.info? ty).map (·.size) = some cs.size)
  (hp : tmps.getD p undef = .pointer (some ⟨g2,0,none⟩)) (hg2 : w.heap[g2]? = some (.cells cs2 t2 fr2)) (hu2 : P.underlying ty2 = some d2) (hd2 : d2.isRow = true) (hi2 : (P.info? ty2).map (·.size) = some cs2.size) :
  (results fn tmps).run P w = .ok (.tuple #[.agg cs,.agg cs2,tmps.getD s undef]) w:=by
 have hq' : tmps[q]?.getD undef = .pointer (some ⟨g,0,none⟩):=by simpa using hq
 have hp' : tmps[p]?.getD undef = .pointer (some ⟨g2,0,none⟩):=by simpa using hp
 have hl : (loadVar ty ⟨g,0,none⟩).run P w = .ok (.agg cs) w:=run_loadVar_mid w g 0 ty cs.toList d (fun j v hv => by rw [cell_of_row w g (0 + j) cs t fr hg,Nat.zero_add]; simpa using hv) hu hd (by simpa using hi)
 have hl2 : (loadVar ty2 ⟨g2,0,none⟩).run P w = .ok (.agg cs2) w:=run_loadVar_mid w g2 0 ty2 cs2.toList d2 (fun j v hv => by rw [cell_of_row w g2 (0 + j) cs2 t2 fr2 hg2,Nat.zero_add]; simpa using hv) hu2 hd2 (by simpa using hi2)
 simp [results,h,hq',hp',asAddr,hl,hl2]
theorem two_far {W : World} {g g' t : Nat} {cs : Array Value} (T : Array Value) (h : W.heap[g']? = some (.cells cs t (0,0))) (hg : g < g') : (W.setRow g T).heap[g']? = some (.cells cs t (0,0)):=(zcq W T (by omega)).trans h
theorem two_rows {w W : World} {g g' t t' : Nat} {T G T0 G0 : Array Value} (hE : Ext w W) (h : W.heap[g]? = some (.cells T0 t (0,0))) (h' : W.heap[g']? = some (.cells G0 t' (0,0))) (hg : w.heap.size ≤ g ∧ g < g') :
  Ext w ((W.setRow g T).setRow g' G) ∧ ((W.setRow g T).setRow g' G).heap[g]? = some (.cells T t (0,0)) ∧ ((W.setRow g T).setRow g' G).heap[g']? = some (.cells G t' (0,0)) :=
 ⟨zav (zav hE hg.1 T) (by omega) G,(zcq _ G (by omega)).trans (setRow_heap W g T0 T t (0,0) h),setRow_heap _ g' G0 G t' (0,0) (two_far T h' hg.2)⟩
/-! ### a region that draws its order,order by order -/
section
variable {P : Program} {ops : Array Oper} {Q : Exit → Act → World → Prop} {f j d : Nat} {listed : Array Bool} {a : Act} {w : World}
end
theorem zba {P : Program} {fn : Func} {q s : Tmp} {ty : TypeId} (h : fn.results = #[.cell q ty,.tmp s]) (tmps : Array Value) (w : World) (g : Nat) (t : TypeId) (cs : Array Value) (fr : Nat × Nat) (d : TypeDesc)
  (hq : tmps.getD q undef = .pointer (some ⟨g,0,none⟩)) (hg : w.heap[g]? = some (.cells cs t fr)) (hu : P.underlying ty = some d) (hd : d.isRow = true) (hi : (P.info? ty).map (·.size) = some cs.size) :
  (results fn tmps).run P w = .ok (.tuple #[.agg cs,tmps.getD s undef]) w:=by
 have hq' : tmps[q]?.getD undef = .pointer (some ⟨g,0,none⟩):=by simpa using hq
 have hl : (loadVar ty ⟨g,0,none⟩).run P w = .ok (.agg cs) w:=run_loadVar_mid w g 0 ty cs.toList d (fun j v hv => by rw [cell_of_row w g (0 + j) cs t fr hg,Nat.zero_add]; simpa using hv) hu hd (by simpa using hi)
 simp [results,h,hq',asAddr,hl]
theorem zfr (w1 : World) (o o2 : Obj) : ((w1.alloc o).alloc o2).heap[w1.heap.size]? = some o ∧ ((w1.alloc o).alloc o2).heap[w1.heap.size + 1]? = some o2:=by
 have h:=zag (w1.alloc o) o2
 rw [World.size_alloc] at h
 exact ⟨(Ext.alloc (w1.alloc o) o2).block (zag w1 o),h⟩
theorem two_ext (w1 : World) (o o2 : Obj) : Ext w1 ((w1.alloc o).alloc o2):=(Ext.alloc _ _).trans (Ext.alloc _ _)
theorem Up.calls {P : Program} {w : World} {D : World → Prop} (h : Up w D) {f : FuncId} {args : Array Value} {v : Value} (k : ∀ W,Ext w W → Calls P f args W fun _e w' => _e = .returned v ∧ Ext W w') (x : Gw D) :
  Calls P f args x.val fun _e w' => _e = .returned v ∧ ∃ y : Gw D,w' = y.val :=
 (k _ (h.grown _ x.property)).mono fun _ w' ⟨he,hE⟩ => ⟨he,⟨w',h.up _ _ x.property hE⟩,rfl⟩
def kyC (k : Ky) : List Value:=.int .i64 k.i :: ((qc k.x k.y k.f).toList ++ [.int .i64 k.a,.int .i64 k.b])
theorem zbx (k : Ky) : (kyC k).length = 12:=by simp [kyC,qc]
theorem kyC_one (k : Ky) : ∀ u ∈ kyC k,u.oneCell' = true:=fun u hu => by
 simp [kyC,qc] at hu
 rcases hu with rfl | rfl | rfl | rfl | rfl | rfl | rfl | rfl | rfl | rfl | rfl | rfl <;> rfl
abbrev Ks (w : World) (v : Value) (l : List Ky) : Prop:=Ls 12 kyC w v l
def TopK (l : List Ky) : Prop:=∀ k ∈ l,k.x < top ∧ k.y < top
theorem infoKy : (Tryz.prog.info? 55).map (·.size) = some 12:=by kernel_rfl
theorem iKy (k : Ky) : (Tryz.prog.info? 55).map (·.size) = some (kyC k).length:=by rw [zbx]; exact infoKy
theorem iKyA (k : Ky) : (Tryz.prog.info? 55).map (·.size) = some (kyC k).toArray.size:=by rw [List.size_toArray,zbx]; exact infoKy
theorem hzKy (W : World) : (Instr.alloc 55 true (.tuple #[])).run Tryz.prog W = .ok (ptrTo W.heap.size) (W.alloc (.cells #[.int .i64 0,vI vU 0,vI vU 0,vI vU 0,vI vU 0,vI vU 0,vI vU 0,vI vU 0,vI vU 0,.bool false,.int .i64 0,.int .i64 0] 55)):=by simp [Instr.alloc,go_sem]
theorem zfw (k : Ky) : (kyC k).toArray.all (·.oneCell') = true:=by simp [kyC,qc,Value.oneCell']
theorem zfd (k : Ky) : (#[.int .i64 0,vI vU 0,vI vU 0,vI vU 0,vI vU 0,vI vU 0,vI vU 0,vI vU 0,vI vU 0,.bool false,.int .i64 0,.int .i64 0] : Array Value).size = (kyC k).toArray.size:=by
 have h : (kyC k).toArray.size = 12:=by rw [List.size_toArray,zbx]
 rw [h]
 rfl
section
variable {w : World} {b o : Nat} {k : Ky}
theorem ky_i (h : w.rangeAt b o (kyC k)) : w.cell? ⟨b,o,none⟩ = some (.int .i64 k.i):=h 0 _ rfl
theorem ky_f (h : w.rangeAt b o (kyC k)) : w.cell? ⟨b,o + 9,none⟩ = some (.bool k.f):=h 9 _ rfl
theorem ky_a (h : w.rangeAt b o (kyC k)) : w.cell? ⟨b,o + 10,none⟩ = some (.int .i64 k.a):=h 10 _ rfl
theorem ky_b (h : w.rangeAt b o (kyC k)) : w.cell? ⟨b,o + 11,none⟩ = some (.int .i64 k.b):=h 11 _ rfl
theorem ky_q (h : w.rangeAt b o (kyC k)) : w.rangeAt b (o + 1) (qc k.x k.y k.f).toList:=fun j v hv => by
 have hj : j < 9:=(List.getElem?_eq_some_iff.1 hv).1
 have:=h (j + 1) v (by
  show ((qc k.x k.y k.f).toList ++ _)[j]? = _
  rw [List.getElem?_append_left hj]
  exact hv)
 rw [Nat.add_assoc,Nat.add_comm 1 j]
 exact this
theorem zcr {g : Nat} {fr : Nat × Nat} (h : w.heap[g]? = some (.cells (kyC k).toArray 55 fr)) : w.rangeAt g 0 (kyC k):=fun j v hv => by
 rw [Nat.zero_add,cell_of_row w g j _ _ _ h]
 simpa using hv
end
def qO : Option Ky → Array Value
 | none => qc 0 0 false
 | some k => qc k.x k.y k.f
def PZ : Array Value:=#[vI vU 0,vI vU 0,vI vU 0,vI vU 0,vI vU 0,vI vU 0,vI vU 0,vI vU 0,.bool false]
theorem pz_qc : PZ = qc 0 0 false:=by
 obtain ⟨h0,h1,h2,h3⟩:=wd_z
 unfold qc PZ
 rw [h0,h1,h2,h3]
theorem iPZ : (Tryz.prog.info? 29).map (·.size) = some PZ.size:=by kernel_rfl
theorem pz_one : PZ.all (·.oneCell') = true:=by simp [PZ,Value.oneCell']
theorem zcn {l : List Ky} {i : Nat} (h : i < l.length) : l[i]? = some (l.getD i ky0):=by rw [List.getD_eq_getElem?_getD,List.getElem?_eq_getElem h]; rfl
end Go.Proofs.YthlbemnbmbmjhaaGreatDoor
